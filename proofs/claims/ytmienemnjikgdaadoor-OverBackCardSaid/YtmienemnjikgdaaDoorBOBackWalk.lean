/- OverBack: its walk. -/
import Derived.Test.YtmienemnjikgdaaDoorB5
namespace Go.Proofs.YtmienemnjikgdaaDoor
open Go.RowKit Go.Shelf Go.Extern.Stop Go.Stop Go.Extern WordM RuleM
attribute [local go_sem] Oper.semAt_some

/-- Before's answer as the law takes it -/
theorem before_200 (K R : Nat) (p q : Option Addr) (n c m d : Nat) (t l : List Int) (w : World) (hn : n = t.length) (hm : m = l.length) (h : IntV w.heap.size w p c t) (h' : IntV w.heap.size w q d l) (ho : OkS K R t) (hl : l.length ≤ 256) (hw : okW K l) (MB : Bool) (hMB : decide (200 < (preAll K R t l).length) = MB) (L : List (List Int)) (hL : (preAll K R t l).take 200 = L) (nL : Nat) (hnL : L.length = nL) :
    Calls Tryd.prog 24 #[.agg #[.int .i64 (K : Int), .int .i64 (R : Int), .slice p n c], .slice q m d, .int .i64 200] w (fun e w' => ∃ p1 c1 Es, e = .returned (.tuple #[.slice p1 nL c1, .bool MB, .nilIface]) ∧ LstV w' p1 c1 (Es.map (·.1)) ∧ lists Es = L ∧ Below w.heap.size w w') := by
  have h0 := oBefore_ok K R 200 p q n c m d t l w hn hm h h' ho hl hw (by decide)
  rw [hMB, hL] at h0
  refine Calls.mono h0 ?_
  rintro e w' ⟨p1, c1, Es, rfl, h1, h2, h3⟩
  have hl : Es.length = nL := by rw [← lists_length, h2, hnL]
  exact ⟨p1, c1, Es, by rw [hl], h1.toV, h2, h3⟩
/-- an own list beside no error, its length told -/
def IntOkN (w : World) (L : List Int) (m : Nat) (e : Ending) (w' : World) : Prop :=
  ∃ p c, e = .returned (.tuple #[.slice p m c, .nilIface]) ∧ IntV w'.heap.size w' p c L ∧ Below w.heap.size w w'
theorem step_img (K R : Nat) (p q : Option Addr) (n c m d k : Nat) (t y l : List Int) (w : World) (hn : n = t.length) (hm : m = y.length) (h : IntV w.heap.size w p c t) (h' : IntV w.heap.size w q d y) (ho : OkS K R t) (hl : y.length ≤ 4096) (hw : okW K y) (hi : imgW K R t y = l) (hk : l.length = k) :
    Calls Tryd.prog 23 #[.agg #[.int .i64 (K : Int), .int .i64 (R : Int), .slice p n c], .slice q m d] w (IntOkN w l k) := by
  have h0 := step_ok (K : Int) (R : Int) p q n c m d t y w hn hm h h' (chkT_ok ho.ok hl hw)
  rw [Int.toNat_natCast, Int.toNat_natCast, hi] at h0
  refine Calls.mono h0 ?_
  rintro e w' ⟨p1, c1, rfl, h1, h2⟩
  exact ⟨p1, c1, by rw [hk], h1.toV, h2⟩
theorem cmp_q (p q : Option Addr) (n m c d : Nat) (l k : List Int) (w : World) (hn : n = l.length) (hm : m = k.length) (h : IntV w.heap.size w p c l) (h' : IntV w.heap.size w q d k) (hc : cmpW l k = -1) :
    Calls Tryd.prog 27 #[.slice p n c, .slice q m d] w (Quiet (.int .i64 (-1)) w) := by
  have h0 := cmp_w p q n m c d l k w hn hm h h'
  rw [hc] at h0
  refine Calls.mono h0 ?_
  rintro e w' ⟨rfl, rfl⟩
  exact ⟨rfl, 0, rfl⟩
theorem ints_self (p q : Option Addr) (n c d : Nat) (l : List Int) (w : World) (hn : n = l.length) (h : IntV w.heap.size w p c l) (h' : IntV w.heap.size w q d l) :
    Calls Tryd.prog 21 #[.slice p n c, .slice q n d] w (Quiet (.bool true) w) := by
  have h0 := ints_q p q n n c d l l w hn hn h h'
  rwa [sameI_self] at h0
/-- one of the lists -/
theorem lists_at {Es : List MkI} {L : List (List Int)} (h : lists Es = L) {i : Nat} (hi : i < L.length) : ∃ p c y, (Es.map (·.1))[i]? = some (p, c, y) ∧ L[i]? = some y := by
  have hl : i < Es.length := by rw [← lists_length, h]; exact hi
  refine ⟨Es[i].1.1, Es[i].1.2.1, Es[i].1.2.2, ?_, ?_⟩
  · rw [List.getElem?_map, List.getElem?_eq_getElem hl]; rfl
  · rw [← h]
    unfold lists
    rw [List.getElem?_map, List.getElem?_eq_getElem hl]; rfl
/-- between two rounds -/
def BackR (w5 : World) (L : List (List Int)) (x : List Int) (nL : Nat) (v12 v13 : Value) (wr : World) : Prop :=
  ∃ i : Nat, i ≤ nL ∧ v13 = .int .i64 (i : Int) ∧ v12 = .bool (fndW L x i) ∧ Below w5.heap.size w5 wr
set_option maxRecDepth 100000 in
set_option maxHeartbeats 8000000 in
theorem back_ok (K R : Nat) (p q s : Option Addr) (n c m d u e : Nat) (t l x : List Int) (w : World) (A : Nat → Addr) (hr : Roots w A) (hn : n = t.length) (hm : m = l.length) (hu : u = x.length) (h : IntV w.heap.size w p c t) (h' : IntV w.heap.size w q d l) (h'' : IntV w.heap.size w s e x) (ho : OkS K R t) (hl : l.length ≤ 256) (hw : okW K l) :
    Calls Tryd.prog 6 #[.agg #[.int .i64 (K : Int), .int .i64 (R : Int), .slice p n c], .slice q m d, .slice s u e] w (Tells (.bool true) w) := by
  have ST := Lib.hid (box_ruleO w (.int .i64 (K : Int)) (.int .i64 (R : Int)) (.slice p n c))
  have hk1 := ho.ok.k1
  have zm : m ≤ 256 := by omega
  obtain ⟨MB, hMB⟩ : ∃ x, decide (200 < (preAll K R t l).length) = x := ⟨_, rfl⟩
  obtain ⟨L, hL⟩ : ∃ x, (preAll K R t l).take 200 = x := ⟨_, rfl⟩
  obtain ⟨nL, hnL⟩ : ∃ x, L.length = x := ⟨_, rfl⟩
  obtain ⟨D, hD⟩ : ∃ D, 2 * R = D := ⟨_, rfl⟩
  have hLA : L.length ≤ 200 := by rw [← hL, List.length_take]; omega
  have znL : nL ≤ 200 := by omega
  have zD : D ≤ 6 := by have := ho.ok.r3; omega
  have h2R : 2 * (R : Int) = (D : Int) := by omega
  have hhas : hasW K R t l = decide (0 < (nL : Int)) := by rw [has_told, hL, hnL]
  have cB := fun W a b => before_200 K R p q n c m d t l W hn hm a b ho hl hw MB hMB L hL nL hnL
  have cH := fun W a b => oHas_ok K R p q n c m d t l W hn hm a b ho hl hw
  rw [hhas] at cH
  have cS := fun y W py cy ky hky hyv ht (hyl : y.length ≤ 4096) (hyw : okW K y) (hyi : imgW K R t y = l) => step_img K R p py n c ky cy m t y l W hn hky ht hyv ho hyl hyw hyi hm.symm
  have told : ∀ y, y ∈ L → okW K y ∧ y.length = l.length + 2 * R ∧ imgW K R t y = l := fun y hy => pre_told hk1 (by rw [hL]; exact hy)
  have stepC : ∀ i j a b, i = j + 1 → L[j]? = some a → L[i]? = some b → cmpW a b = -1 := fun i j a b hij ha hb => pre_step (R := R) (t := t) (l := l) hk1 hij (by rw [hL]; exact ha) (by rw [hL]; exact hb)
  have rest : okW K x → x.length = l.length + 2 * R → imgW K R t x = l → x ∉ L → MB = true ∧ L.length = 200 ∧ ∀ a, L[199]? = some a → cmpW a x = -1 := fun h1 h2 h3 h4 => by
    have h5 := pre_rest hk1 h1 h2 h3 (by rw [hL]; exact h4)
    rw [hL] at h5
    exact ⟨by rw [← hMB]; exact decide_eq_true h5.1, h5.2⟩
  have HC := Lib.hid (And.intro cB (And.intro cH cS))
  have HL := Lib.hid (And.intro told (And.intro stepC (And.intro rest hnL)))
  have H := Lib.hid (And.intro h (And.intro h' (And.intro h'' (And.intro hr (And.intro hn (And.intro hm (And.intro hu (And.intro hD ho))))))))
  have zn : nL = L.length := hnL.symm
  have HN := Lib.hid zn
  clear cB cH cS told stepC rest h h' h'' hr hn hm hu hD ho hl hw hhas hMB hL hnL zn hLA hk1
  go_enter Tryd.func6, Tryd.ntmps6
  go_upto_region 1 with fail
  obtain ⟨w0, hw0⟩ : ∃ w0, w0 = w.alloc (.cells #[.int .i64 (K : Int), .int .i64 (R : Int), .slice p n c] 24) := ⟨_, rfl⟩
  rw [← hw0]
  obtain ⟨hb0, hE0⟩ := ST.out w0 hw0
  have HE := Lib.hid (And.intro hE0 hb0)
  clear hw0 hE0 hb0
  go_wp2_with fail
  refine (awakeO w0).mono ?_
  rintro e1 w1 ⟨rfl, hb1⟩
  have H1 := Lib.hid (And.intro (HE.out.1.next hb1) (HE.out.2.trans (hb1.mono HE.out.2.size)))
  clear hb1
  obtain ⟨_, hc0, hc1, hc2⟩ := H1.out.1.facts
  go_wp2_with fail
  refine (HC.out.1 w1 (H.out.1.next H1.out.2) (H.out.2.1.next H1.out.2)).mono ?_
  rintro e2 w2 ⟨p1, c1, Es, rfl, hl2, hA2, hb2⟩
  have H2 := Lib.hid (And.intro (H1.out.1.next hb2) (And.intro (H1.out.2.trans (hb2.mono H1.out.2.size)) (And.intro hl2 hA2)))
  clear hb2 hl2 hA2 hc0 hc1 hc2
  obtain ⟨_, hc0, hc1, hc2⟩ := H2.out.1.facts
  go_wp2_with fail
  refine (HC.out.2.1 w2 (H.out.1.next H2.out.2.1) (H.out.2.1.next H2.out.2.1)).mono ?_
  rintro e3 w3 ⟨rfl, hb3⟩
  have H3 := Lib.hid (And.intro (H2.out.1.next hb3) (And.intro (H2.out.2.1.trans (hb3.mono H2.out.2.1.size)) (And.intro (H2.out.2.2.1.next hb3) H2.out.2.2.2)))
  clear hb3 hc0 hc1 hc2
  go_wp2_with fail
  have hnc1 : nL ≤ c1 := by have h1 := H3.out.2.2.1.le; rw [List.length_map, ← lists_length, H3.out.2.2.2] at h1; have := HN.out; omega
  go_loopw [12, 13] (fun v12 v13 wr => BackR w3 L x nL v12 v13 wr) (fun _ v _ => nL - (intOf v).toNat)
  case atStart => exact ⟨0, Nat.zero_le _, rfl, by rw [fnd_zero], Below.refl _ _⟩
  case round =>
    obtain ⟨i, hi, rfl, rfl, hbr⟩ := hrel
    by_cases hin : i < nL
    · have hin2 : (i : Int) < (nL : Int) := by omega
      have hi0 : (0 : Int) ≤ (i : Int) := by omega
      obtain ⟨py, cy, y, hy1, hy2⟩ := lists_at H3.out.2.2.2 (i := i) (by have := HN.out; omega)
      have hR := H3.out.1.next hbr
      have hV := H3.out.2.2.1.next hbr
      obtain ⟨b, off, rfl, hbb, hcell⟩ := hV.cell (by intro e0; rw [e0] at hy1; simp at hy1)
      have hyc := hcell i _ hy1
      have hyv := hV.own i _ hy1
      simp only [Sl.val] at hyc
      obtain ⟨ky, hky⟩ : ∃ k, y.length = k := ⟨_, rfl⟩
      rw [hky] at hyc
      have htold := HL.out.1 y (List.mem_of_getElem? hy2)
      have hkm : ky = m + D := by have h1 := htold.2.1; have h2 := H.out.2.2.2.2.2.1; have h3 := H.out.2.2.2.2.2.2.2.1; omega
      have hkm2 : (m : Int) + (D : Int) = (ky : Int) := by omega
      have hkw : IntKind.i64.wrap ((m : Int) + (D : Int)) = (ky : Int) := by rw [IntWalk.i64_in _ (by omega)]; omega
      have hkww : IntKind.i64.wrap (ky : Int) = (ky : Int) := by rw [IntWalk.i64_in _ (by omega)]
      have hDw : IntKind.i64.wrap (D : Int) = (D : Int) := by rw [IntWalk.i64_in _ (by omega)]
      have h2w : IntKind.i64.wrap (2 * (R : Int)) = (D : Int) := by rw [IntWalk.i64_in _ (by omega)]; omega
      have hBw := H3.out.2.1.trans (hbr.mono H3.out.2.1.size)
      have hprev : ∀ j, i = j + 1 → ∃ pj cj a, (Es.map (·.1))[j]? = some (pj, cj, a) ∧ cmpW a y = -1 := fun j hj => by
        obtain ⟨pj, cj, a, h1, h2⟩ := lists_at H3.out.2.2.2 (i := j) (by have := HN.out; omega)
        exact ⟨pj, cj, a, h1, HL.out.2.1 i j a y hj h2 hy2⟩
      have hfs := fnd_succ (x := x) hy2
      obtain ⟨F, hF⟩ : ∃ F, fndW L x i = F := ⟨_, rfl⟩
      rw [hF] at hfs ⊢
      have HR := Lib.hid (And.intro hR (And.intro hV (And.intro hbb (And.intro hcell (And.intro hyv (And.intro htold (And.intro hBw (And.intro hprev (And.intro hfs (And.intro hbr hky))))))))))
      have hxA : ∀ wx : World, Below wr.heap.size wr wx → (wx.cell? ⟨w.heap.size, 0, none⟩ = some (.int .i64 (K : Int)) ∧ wx.cell? ⟨w.heap.size, 1, none⟩ = some (.int .i64 (R : Int)) ∧ wx.cell? ⟨w.heap.size, 2, none⟩ = some (.slice p n c)) ∧ wx.cell? ⟨b, off + i, none⟩ = some (.slice py ky cy) := fun wx hb => ⟨(HR.out.1.next hb).facts.2, (hb.cell (p := ⟨b, off + i, none⟩) HR.out.2.2.1).trans hyc⟩
      have hdr : Below wr.heap.size wr wr.drew := (Below.refl _ _).drew
      have cS : ∀ W, Below wr.heap.size wr W → Calls Tryd.prog 23 #[.agg #[.int .i64 (K : Int), .int .i64 (R : Int), .slice p n c], .slice py ky cy] W (IntOkN W l m) := fun W hb => HC.out.2.2 y W py cy ky hky.symm (hyv.next hb) (H.out.1.next (hBw.trans (hb.mono hBw.size))) (by omega) htold.1 htold.2.2
      have HS := Lib.hid cS
      clear hR hV hbb hcell hyc hyv htold hBw hprev hfs hbr hky hF hy1 hy2 cS hkm
      go_upto_region 13 with fail
      go_region_held3 (fun wx => (wx.cell? ⟨w.heap.size, 0, none⟩ = some (.int .i64 (K : Int)) ∧ wx.cell? ⟨w.heap.size, 1, none⟩ = some (.int .i64 (R : Int)) ∧ wx.cell? ⟨w.heap.size, 2, none⟩ = some (.slice p n c)) ∧ wx.cell? ⟨b, off + i, none⟩ = some (.slice py ky cy)) (first | with_reducible exact hxA _ hB7 | with_reducible exact hxA _ (Below.refl _ _) | with_reducible exact hxA _ hdr | go_keep) (first
        | (go_at_call 23; refine (HS.out _ (by first | with_reducible exact hdr | with_reducible exact Below.refl _ _)).mono ?_; rintro e4 w7 ⟨p7, c7, rfl, hv7, hb7⟩; have hB7 : Below wr.heap.size wr w7 := (by first | with_reducible exact hdr.trans (hb7.mono hdr.size) | with_reducible exact hb7)))
      clear hdr
      obtain ⟨⟨hc0, hc1, hc2⟩, hc3⟩ := hxA _ hB7
      have hBc := HR.out.2.2.2.2.2.2.1.trans (hB7.mono HR.out.2.2.2.2.2.2.1.size)
      have cI : ∀ a, Calls Tryd.prog 21 #[.slice p7 m c7, .slice q m d] (w7.drewN a) (Quiet (.bool true) (w7.drewN a)) := fun a => ints_self p7 q m c7 d l _ H.out.2.2.2.2.2.1 (hv7.next (below_drewN (Below.refl _ _) a)) (H.out.2.1.next (hBc.trans ((below_drewN (Below.refl _ _) a).mono hBc.size)))
      have HI := Lib.hid cI
      have HW := Lib.hid (And.intro hB7 hBc)
      have HX := Lib.hid hxA
      clear cI hv7 hB7 hBc hxA
      by_cases hi1 : (0 : Int) < (i : Int)
      · have hin0 : 0 < i := by omega
        obtain ⟨j, hj⟩ : ∃ j, i = j + 1 := ⟨i - 1, by omega⟩
        obtain ⟨pj, cj, a, hj1, hj2⟩ := HR.out.2.2.2.2.2.2.2.1 j hj
        have hij : (i : Int) - 1 = (j : Int) := by omega
        have hjw : IntKind.i64.wrap (j : Int) = (j : Int) := by rw [IntWalk.i64_in _ (by omega)]
        have hijw : IntKind.i64.wrap ((i : Int) - 1) = (j : Int) := by rw [IntWalk.i64_in _ (by omega)]; omega
        have hj0 : (0 : Int) ≤ (j : Int) := by omega
        have hjn : (j : Int) < (nL : Int) := by omega
        have hjc := (HW.out.1.cell (p := ⟨b, off + j, none⟩) HR.out.2.2.1).trans (HR.out.2.2.2.1 j _ hj1)
        have hjv := HR.out.2.1.own j _ hj1
        simp only [Sl.val] at hjc
        obtain ⟨kj, hkj⟩ : ∃ k, a.length = k := ⟨_, rfl⟩
        rw [hkj] at hjc
        have cC : ∀ b1, Calls Tryd.prog 27 #[.slice pj kj cj, .slice py ky cy] (w7.drewN b1) (Quiet (.int .i64 (-1)) (w7.drewN b1)) := fun b1 => cmp_q pj py kj ky cj cy a y _ hkj.symm HR.out.2.2.2.2.2.2.2.2.2.2.symm (hjv.next (HW.out.1.trans ((below_drewN (Below.refl _ _) b1).mono HW.out.1.size))) (HR.out.2.2.2.2.1.next (HW.out.1.trans ((below_drewN (Below.refl _ _) b1).mono HW.out.1.size))) hj2
        have HCm := Lib.hid cC
        clear hj hj1 hj2 hjv hkj cC
        go_wp2_with fail
        go_quiet (first
          | (go_at_call 21; first | exact Quiet.add (HI.out _) | exact Quiet.add2 (HI.out _))
          | (go_at_call 27; first | exact Quiet.add (HCm.out _) | exact Quiet.add2 (HCm.out _)))
        cases F with
        | true =>
          go_wp2_with fail
          go_roundw
          case rel => exact ⟨i + 1, by omega, by go_num, by rw [HR.out.2.2.2.2.2.2.2.2.1]; rfl, HR.out.2.2.2.2.2.2.2.2.2.1.trans ((HW.out.1.trans ((below_drewN (Below.refl _ _) _).mono HW.out.1.size)).mono HR.out.2.2.2.2.2.2.2.2.2.1.size)⟩
          case measure => simp [intOf]; omega
        | false =>
          go_wp2_with fail
          have hbq := HW.out.1.trans ((below_drewN (Below.refl w7.heap.size w7) nq).mono HW.out.1.size)
          refine (ints_any py s ky u cy e y x (w7.drewN nq) HR.out.2.2.2.2.2.2.2.2.2.2.symm H.out.2.2.2.2.2.2.1 (HR.out.2.2.2.2.1.next hbq) (H.out.2.2.1.next (HR.out.2.2.2.2.2.2.1.trans (hbq.mono HR.out.2.2.2.2.2.2.1.size)))).mono ?_
          rintro e8 w8 ⟨rfl, hb8⟩
          have HZ := Lib.hid (hbq.trans (hb8.mono hbq.size))
          clear hbq hb8
          go_wp2_with fail
          go_roundw
          case rel => exact ⟨i + 1, by omega, by go_num, by rw [HR.out.2.2.2.2.2.2.2.2.1]; rfl, HR.out.2.2.2.2.2.2.2.2.2.1.trans (HZ.out.mono HR.out.2.2.2.2.2.2.2.2.2.1.size)⟩
          case measure => simp [intOf]; omega
      · have hin0 : decide (0 < i) = false := decide_eq_false (by omega)
        go_wp2_with fail
        go_quiet (first
          | (go_at_call 21; first | exact Quiet.add (HI.out _) | exact Quiet.add2 (HI.out _)))
        cases F with
        | true =>
          go_wp2_with fail
          go_roundw
          case rel => exact ⟨i + 1, by omega, by go_num, by rw [HR.out.2.2.2.2.2.2.2.2.1]; rfl, HR.out.2.2.2.2.2.2.2.2.2.1.trans ((HW.out.1.trans ((below_drewN (Below.refl _ _) _).mono HW.out.1.size)).mono HR.out.2.2.2.2.2.2.2.2.2.1.size)⟩
          case measure => simp [intOf]; omega
        | false =>
          go_wp2_with fail
          have hbq := HW.out.1.trans ((below_drewN (Below.refl w7.heap.size w7) nq).mono HW.out.1.size)
          refine (ints_any py s ky u cy e y x (w7.drewN nq) HR.out.2.2.2.2.2.2.2.2.2.2.symm H.out.2.2.2.2.2.2.1 (HR.out.2.2.2.2.1.next hbq) (H.out.2.2.1.next (HR.out.2.2.2.2.2.2.1.trans (hbq.mono HR.out.2.2.2.2.2.2.1.size)))).mono ?_
          rintro e8 w8 ⟨rfl, hb8⟩
          have HZ := Lib.hid (hbq.trans (hb8.mono hbq.size))
          clear hbq hb8
          go_wp2_with fail
          go_roundw
          case rel => exact ⟨i + 1, by omega, by go_num, by rw [HR.out.2.2.2.2.2.2.2.2.1]; rfl, HR.out.2.2.2.2.2.2.2.2.2.1.trans (HZ.out.mono HR.out.2.2.2.2.2.2.2.2.2.1.size)⟩
          case measure => simp [intOf]; omega
    · obtain rfl : i = nL := by omega
      have hin2 : ¬ (i : Int) < (i : Int) := by omega
      have hfa := fnd_all (x := x) HN.out
      obtain ⟨F, hF⟩ : ∃ F, fndW L x i = F := ⟨_, rfl⟩
      rw [hF] at hfa ⊢
      have hR := H3.out.1.next hbr
      obtain ⟨_, hc0, hc1, hc2⟩ := hR.facts
      have hBw := H3.out.2.1.trans (hbr.mono H3.out.2.1.size)
      have HR := Lib.hid (And.intro hR (And.intro (H3.out.2.2.1.next hbr) (And.intro hBw (And.intro hfa.1 hfa.2))))
      clear hR hBw hfa hF hbr
      by_cases hxu : u = m + D
      · have hxu2 : (m : Int) + (D : Int) = (u : Int) := by omega
        have zu2 : u ≤ 262 := by omega
        have hxl : x.length = l.length + 2 * R := by have h1 := H.out.2.2.2.2.2.1; have h2 := H.out.2.2.2.2.2.2.1; have h3 := H.out.2.2.2.2.2.2.2.1; omega
        clear hxu
        cases hcx : chkT (K : Int) (R : Int) t x with
        | none =>
          obtain ⟨K', R', hK', hR', _, _, hxw⟩ := chkT_none hcx
          obtain rfl : K = K' := by omega
          obtain ⟨I, hI⟩ : ∃ I, imgW K R t x = I := ⟨_, rfl⟩
          obtain ⟨kI, hkI⟩ : ∃ k, I.length = k := ⟨_, rfl⟩
          obtain ⟨IS, hIS⟩ : ∃ b, sameI I l = b := ⟨_, rfl⟩
          have cX : ∀ W, Below w.heap.size w W → Calls Tryd.prog 23 #[.agg #[.int .i64 (K : Int), .int .i64 (R : Int), .slice p n c], .slice s u e] W (IntOkN W I kI) := fun W hb => by
            have h0 := step_ok (K : Int) (R : Int) p s n c u e t x W H.out.2.2.2.2.1 H.out.2.2.2.2.2.2.1 (H.out.1.next hb) (H.out.2.2.1.next hb) hcx
            rw [Int.toNat_natCast, Int.toNat_natCast, hI] at h0
            refine Calls.mono h0 ?_
            rintro e w' ⟨p1, c1, rfl, h1, h2⟩
            exact ⟨p1, c1, by rw [hkI], h1.toV, h2⟩
          have cI : ∀ W p8 c8, Below w.heap.size w W → IntV W.heap.size W p8 c8 I → Calls Tryd.prog 21 #[.slice p8 kI c8, .slice q m d] W (Tells (.bool IS) W) := fun W p8 c8 hb hv => by
            have h0 := ints_any p8 q kI m c8 d I l W hkI.symm H.out.2.2.2.2.2.1 hv (H.out.2.1.next hb)
            rwa [hIS] at h0
          have HX := Lib.hid (And.intro cX cI)
          have hfin : (F = true → IS = true) ∧ (F = false → IS = true → MB = true ∧ L.length = 200 ∧ ∀ a, L[199]? = some a → cmpW a x = -1) := by
            refine ⟨fun hF1 => ?_, fun hF0 hI1 => HL.out.2.2.1 hxw hxl ?_ fun hx => ?_⟩
            · rw [← hIS, ← hI]
              exact sameI_eq (HL.out.1 x (HR.out.2.2.2.1 hF1)).2.2
            · have : I = l := by simpa [sameI, hI1] using hIS
              rw [hI, this]
            · rw [HR.out.2.2.2.2 hx] at hF0
              cases hF0
          have HG := Lib.hid hfin
          clear cX cI hfin hIS hkI hI hxw hK' hR' hcx hxl
          cases F with
          | true =>
            obtain rfl := HG.out.1 rfl
            go_wp2_with fail
            refine (HX.out.1 wr HR.out.2.2.1).mono ?_
            rintro e8 w8 ⟨p8, c8, rfl, hv8, hb8⟩
            have HZ := Lib.hid (And.intro (HR.out.2.2.1.trans (hb8.mono HR.out.2.2.1.size)) hv8)
            clear hb8 hv8 hc0 hc1 hc2
            go_wp2_with fail
            refine (HX.out.2 w8 p8 c8 HZ.out.1 HZ.out.2).mono ?_
            rintro e9 w9 ⟨rfl, hb9⟩
            have HY := Lib.hid (HZ.out.1.trans (hb9.mono HZ.out.1.size))
            clear hb9
            go_wp2_with fail
            go_ret
            exact ⟨rfl, HY.out⟩
          | false =>
            cases IS with
            | false =>
              go_wp2_with fail
              refine (HX.out.1 wr HR.out.2.2.1).mono ?_
              rintro e8 w8 ⟨p8, c8, rfl, hv8, hb8⟩
              have HZ := Lib.hid (And.intro (HR.out.2.2.1.trans (hb8.mono HR.out.2.2.1.size)) hv8)
              clear hb8 hv8 hc0 hc1 hc2
              go_wp2_with fail
              refine (HX.out.2 w8 p8 c8 HZ.out.1 HZ.out.2).mono ?_
              rintro e9 w9 ⟨rfl, hb9⟩
              have HY := Lib.hid (HZ.out.1.trans (hb9.mono HZ.out.1.size))
              clear hb9
              go_wp2_with fail
              go_ret
              exact ⟨rfl, HY.out⟩
            | true =>
              obtain ⟨rfl, h200, hlast⟩ := HG.out.2 rfl rfl
              obtain rfl : i = 200 := by have := HN.out; omega
              obtain ⟨pj, cj, a, hj1, hj2⟩ := lists_at H3.out.2.2.2 (i := 199) (by omega)
              obtain ⟨b, off, rfl, hbb, hcell⟩ := HR.out.2.1.cell (by intro e0; rw [e0] at hj1; simp at hj1)
              have hjc := hcell 199 _ hj1
              have hjv := HR.out.2.1.own 199 _ hj1
              simp only [Sl.val] at hjc
              obtain ⟨kj, hkj⟩ : ∃ k, a.length = k := ⟨_, rfl⟩
              rw [hkj] at hjc
              have HJ := Lib.hid (And.intro hjc (And.intro hjv (And.intro hkj (And.intro (hlast a hj2) hbb))))
              clear h200 hlast hj1 hj2 hbb hcell hjc hjv hkj
              go_wp2_with fail
              refine (HX.out.1 wr HR.out.2.2.1).mono ?_
              rintro e8 w8 ⟨p8, c8, rfl, hv8, hb8⟩
              have HZ := Lib.hid (And.intro (HR.out.2.2.1.trans (hb8.mono HR.out.2.2.1.size)) (And.intro hv8 hb8))
              clear hb8 hv8 hc0 hc1 hc2
              go_wp2_with fail
              refine (HX.out.2 w8 p8 c8 HZ.out.1 HZ.out.2.1).mono ?_
              rintro e9 w9 ⟨rfl, hb9⟩
              have hb89 := HZ.out.2.2.trans (hb9.mono HZ.out.2.2.size)
              have hjc := (hb89.cell (p := ⟨b, off + 199, none⟩) HJ.out.2.2.2.2).trans HJ.out.1
              have HY := Lib.hid (And.intro (HZ.out.1.trans (hb9.mono HZ.out.1.size)) (HJ.out.2.1.next hb89))
              clear hb9 hb89
              go_wp2_with fail
              refine (Quiet.tells (cmp_q pj s kj u cj e a x w9 HJ.out.2.2.1.symm H.out.2.2.2.2.2.2.1 HY.out.2 (H.out.2.2.1.next HY.out.1) HJ.out.2.2.2.1)).mono ?_
              rintro e10 w10 ⟨rfl, hb10⟩
              have HV := Lib.hid (HY.out.1.trans (hb10.mono HY.out.1.size))
              clear hb10 hjc
              go_wp2_with fail
              go_ret
              exact ⟨rfl, HV.out⟩
        | some z =>
          obtain ⟨zi, za⟩ := z
          have hF0 : F = false := by
            cases F with
            | false => rfl
            | true =>
              have h1 := (HL.out.1 x (HR.out.2.2.2.1 rfl)).1
              rw [chkT_ok H.out.2.2.2.2.2.2.2.2.ok (by have := H.out.2.2.2.2.2.2.1; omega) h1] at hcx
              cases hcx
          subst hF0
          have HX := Lib.hid (fun W hb => step_bad (K : Int) (R : Int) p s n c u e t x W A (H.out.2.2.2.1.below hb) H.out.2.2.2.2.1 H.out.2.2.2.2.2.2.1 (H.out.1.next hb) (H.out.2.2.1.next hb) zi za hcx)
          clear hcx hxl
          go_wp2_with fail
          refine (HX.out wr HR.out.2.2.1).mono ?_
          rintro e8 w8 ⟨b8, rfl, _, hb8⟩
          have HZ := Lib.hid (HR.out.2.2.1.trans (hb8.mono HR.out.2.2.1.size))
          clear hb8 hc0 hc1 hc2
          go_wp2_with fail
          go_ret
          exact ⟨rfl, HZ.out⟩
      · have hne : ¬ (u : Int) = (m : Int) + (D : Int) := by omega
        have hF0 : F = false := by
          cases F with
          | false => rfl
          | true => exact absurd (HL.out.1 x (HR.out.2.2.2.1 rfl)).2.1 (by have h1 := H.out.2.2.2.2.2.1; have h2 := H.out.2.2.2.2.2.2.1; have h3 := H.out.2.2.2.2.2.2.2.1; omega)
        subst hF0
        clear hxu
        go_wp2_with fail
        go_ret
        exact ⟨rfl, HR.out.2.2.1⟩
set_option maxRecDepth 100000 in
set_option maxHeartbeats 8000000 in
theorem back_bad (k r : Int) (p q s : Option Addr) (n c m d u e : Nat) (t l : List Int) (w : World) (A : Nat → Addr) (hr : Roots w A) (hn : n = t.length) (hm : m = l.length) (h : IntV w.heap.size w p c t) (h' : IntV w.heap.size w q d l) (y : List (ByteArray × Int)) (M : Nat) (hc : chkV k r t l 256 = some (y, M)) :
    Calls Tryd.prog 6 #[.agg #[.int .i64 k, .int .i64 r, .slice p n c], .slice q m d, .slice s u e] w (Tells (.bool true) w) := by
  have hcb : chkB k r t l 200 = some (y, M) := by unfold chkB; rw [hc]
  have ST := Lib.hid (box_ruleO w (.int .i64 k) (.int .i64 r) (.slice p n c))
  have HC := Lib.hid (fun W hr a b => oBefore_bad k r 200 p q n c m d t l W A hr hn hm a b y M hcb)
  have H := Lib.hid (And.intro h (And.intro h' hr))
  clear h h' hr hc hcb hn hm
  go_enter Tryd.func6, Tryd.ntmps6
  go_upto_region 1 with fail
  obtain ⟨w0, hw0⟩ : ∃ w0, w0 = w.alloc (.cells #[.int .i64 k, .int .i64 r, .slice p n c] 24) := ⟨_, rfl⟩
  rw [← hw0]
  obtain ⟨hb0, hE0⟩ := ST.out w0 hw0
  have HE := Lib.hid (And.intro hE0 hb0)
  clear hw0 hE0 hb0
  go_wp2_with fail
  refine (awakeO w0).mono ?_
  rintro e1 w1 ⟨rfl, hb1⟩
  have H1 := Lib.hid (And.intro (HE.out.1.next hb1) (HE.out.2.trans (hb1.mono HE.out.2.size)))
  clear hb1
  obtain ⟨_, hc0, hc1, hc2⟩ := H1.out.1.facts
  go_wp2_with fail
  refine (HC.out w1 (H.out.2.2.below H1.out.2) (H.out.1.next H1.out.2) (H.out.2.1.next H1.out.2)).mono ?_
  rintro e2 w2 ⟨b2, rfl, _, hb2⟩
  have HZ := Lib.hid (H1.out.2.trans (hb2.mono H1.out.2.size))
  clear hb2 hc0 hc1 hc2
  go_wp2_with fail
  go_ret
  exact ⟨rfl, HZ.out⟩
end Go.Proofs.YtmienemnjikgdaaDoor
