/- RingOrbits: its walk. -/
import Derived.Test.YtgdjnohhofbcnaaDoorB4
import Derived.Test.YtgdjnohhofbcnaaDoorBRgS
namespace Go.Proofs.YtgdjnohhofbcnaaDoor
open Go.RowKit Go.Extern.Stop Go.Stop Go.Extern WordM RuleM NatM

/-- an error behind two noughts -/
def FErr3 (w : World) (A : Nat → Addr) (L : List (ByteArray × Int)) (m : Nat) (e : Ending) (w' : World) : Prop :=
  ∃ b, e = .returned (.tuple #[.int .i64 0, .int .i64 0, .iface 61 (.pointer (some ⟨b, 0, none⟩))]) ∧ Chn w' A b L m ∧ Below w.heap.size w w'
theorem chkO_none {k r : Int} {t l : List Int} (h : chkO k r t l = none) : ∃ K R : Nat, k = K ∧ r = R ∧ OkR K R t ∧ 0 < l.length ∧ l.length ≤ 64 ∧ okW K l := by
  unfold chkO at h
  cases hk : chkG k r t l with
  | some x => rw [hk] at h; cases h
  | none =>
    rw [hk] at h
    simp only at h
    split at h
    · cases h
    · obtain ⟨K, R, rfl, rfl, ho, h0, _, hw⟩ := chkG_none hk
      exact ⟨K, R, rfl, rfl, ho, h0, by omega, hw⟩
set_option maxRecDepth 100000 in
set_option maxHeartbeats 16000000 in
theorem gOrbit_bad (k r : Int) (p q : Option Addr) (n c m d : Nat) (t l : List Int) (w : World) (A : Nat → Addr) (hr : Roots w A) (hT : TypeVar w) (hn : n = t.length) (hm : m = l.length) (h : IntV w.heap.size w p c t) (h' : IntV w.heap.size w q d l) (L : List (ByteArray × Int)) (M : Nat) (hc : chkO k r t l = some (L, M)) :
    Calls Tryd.prog 22 #[.agg #[.int .i64 k, .int .i64 r, .slice p n c], .slice q m d] w (FErr3 w A L M) := by
  unfold chkO at hc
  cases hk : chkG k r t l with
  | some x =>
    rw [hk] at hc
    obtain rfl := Option.some.inj hc
    have ST := Lib.hid (box_rule w (.int .i64 k) (.int .i64 r) (.slice p n c))
    have H := Lib.hid (And.intro hn (And.intro hm (And.intro h (And.intro h' (And.intro hr (And.intro hT hk))))))
    clear hn hm h h' hr hT hk hc
    go_enter Tryd.func22, Tryd.ntmps22
    go_upto_region 1 with fail
    obtain ⟨w0, hw0⟩ : ∃ w0, w0 = w.alloc (.cells #[.int .i64 k, .int .i64 r, .slice p n c] 24) := ⟨_, rfl⟩
    rw [← hw0]
    obtain ⟨hb0, hE0⟩ := ST.out w0 hw0
    have HE := Lib.hid (And.intro hE0 hb0)
    obtain ⟨_, hc0, hc1, hc2⟩ := hE0.facts
    clear hw0 hE0 hb0
    go_wp2_with fail
    refine (gcheck_bad k r p q n c m d t l w0 A (H.out.2.2.2.2.1.below HE.out.2) (H.out.2.2.2.2.2.1.below HE.out.2) H.out.1 H.out.2.1 (H.out.2.2.1.next HE.out.2) (H.out.2.2.2.1.next HE.out.2) L M H.out.2.2.2.2.2.2).mono ?_
    rintro e w1 ⟨b, rfl, hl, hb1⟩
    have H1 := Lib.hid (And.intro hl (HE.out.2.trans (hb1.mono HE.out.2.size)))
    clear hb1 hc0 hc1 hc2 hl
    go_wp2_with fail
    go_ret3
    exact ⟨b, rfl, H1.out.1, H1.out.2⟩
  | none =>
    rw [hk] at hc
    simp only at hc
    obtain ⟨K, R, rfl, rfl, ho, h0, h4, hw⟩ := chkG_none hk
    split at hc
    · rename_i h64
      obtain ⟨rfl, rfl⟩ := Prod.mk.inj (Option.some.inj hc)
      have hm64 : 64 < m := by omega
      have ST := Lib.hid (box_rule w (.int .i64 (K : Int)) (.int .i64 (R : Int)) (.slice p n c))
      have H := Lib.hid (And.intro hn (And.intro hm (And.intro h (And.intro h' (And.intro ho (And.intro h0 (And.intro h4 (And.intro hw hr))))))))
      clear hn hm h h' ho h0 h4 hw hr hT hk hc h64
      go_enter Tryd.func22, Tryd.ntmps22
      go_upto_region 1 with fail
      obtain ⟨w0, hw0⟩ : ∃ w0, w0 = w.alloc (.cells #[.int .i64 (K : Int), .int .i64 (R : Int), .slice p n c] 24) := ⟨_, rfl⟩
      rw [← hw0]
      obtain ⟨hb0, hE0⟩ := ST.out w0 hw0
      have HE := Lib.hid (And.intro hE0 hb0)
      obtain ⟨_, hc0, hc1, hc2⟩ := hE0.facts
      clear hw0 hE0 hb0
      go_wp2_with fail
      refine (gcheck_ok K R p q n c m d t l w0 H.out.1 H.out.2.1 (H.out.2.2.1.next HE.out.2) (H.out.2.2.2.1.next HE.out.2) H.out.2.2.2.2.1 H.out.2.2.2.2.2.1 H.out.2.2.2.2.2.2.1 H.out.2.2.2.2.2.2.2.1).mono ?_
      rintro e w1 ⟨rfl, hb1⟩
      have H1 := Lib.hid (HE.out.2.trans (hb1.mono HE.out.2.size))
      clear hb1 hc0 hc1 hc2
      go_wp2_with fail
      refine (new_at ringOp 0 4 w1 A (H.out.2.2.2.2.2.2.2.2.below H1.out) (by decide)).mono ?_
      rintro e w2 ⟨b, rfl, hl, hb2⟩
      have H2 := Lib.hid (And.intro (Chn.one hl) (H1.out.trans (hb2.mono H1.out.size)))
      clear hb2 hl
      go_wp2_with fail
      go_ret3
      exact ⟨b, rfl, H2.out.1, H2.out.2⟩
    · cases hc
set_option maxRecDepth 100000 in
set_option maxHeartbeats 16000000 in
theorem orbits_err (k r : Int) (p q : Option Addr) (n c m d : Nat) (w : World) (A : Nat → Addr) (hr : Roots w A) (hT : TypeVar w) (L : List (ByteArray × Int)) (M : Nat) (hM : 1 ≤ M ∧ M ≤ 11)
    (cP : ∀ W, Below w.heap.size w W → Calls Tryd.prog 22 #[.agg #[.int .i64 k, .int .i64 r, .slice p n c], .slice q m d] W (FErr3 W A L M))
    (cR : ∀ W, Below w.heap.size w W → Calls Tryd.prog 23 #[.agg #[.int .i64 k, .int .i64 r, .slice p n c], .slice q m d] W (GUnd3 W M L)) :
    Calls Tryd.prog 4 #[.agg #[.int .i64 k, .int .i64 r, .slice p n c], .slice q m d] w (Tells (.bool true) w) := by
  have ST := Lib.hid (box_rule w (.int .i64 k) (.int .i64 r) (.slice p n c))
  obtain ⟨nL, hnL⟩ : ∃ x, L.length = x := ⟨_, rfl⟩
  have H := Lib.hid (And.intro hr (And.intro hT (And.intro hM (And.intro cP (And.intro cR hnL)))))
  clear hr hT hM cP cR hnL
  go_enter Tryd.func4, Tryd.ntmps4
  go_upto_region 1 with fail
  obtain ⟨w0, hw0⟩ : ∃ w0, w0 = w.alloc (.cells #[.int .i64 k, .int .i64 r, .slice p n c] 24) := ⟨_, rfl⟩
  rw [← hw0]
  obtain ⟨hb0, hE0⟩ := ST.out w0 hw0
  have HE := Lib.hid (And.intro hE0 hb0)
  clear hw0 hE0 hb0
  go_wp2_with fail
  refine (awakeG w0 A (H.out.1.below HE.out.2)).mono ?_
  rintro e w1 ⟨rfl, hb1⟩
  have H1 := Lib.hid (And.intro (HE.out.2.trans (hb1.mono HE.out.2.size)) (HE.out.1.next hb1))
  clear hb1
  obtain ⟨_, hc0, hc1, hc2⟩ := H1.out.2.facts
  go_wp2_with fail
  refine (H.out.2.2.2.1 w1 H1.out.1).mono ?_
  rintro e w2 ⟨b, rfl, hl, hbb⟩
  have H2 := Lib.hid (And.intro (H1.out.1.trans (hbb.mono H1.out.1.size)) (And.intro (H1.out.2.next hbb) hl))
  clear hbb hl hc0 hc1 hc2
  obtain ⟨_, hc0, hc1, hc2⟩ := H2.out.2.1.facts
  go_wp2_with fail
  refine (H.out.2.2.2.2.1 w2 H2.out.1).mono ?_
  rintro e w3 ⟨go, ga, co, ca, rfl, hwv, hbb⟩
  rw [H.out.2.2.2.2.2]
  clear hc0 hc1 hc2
  go_upto_region 5 with fail
  obtain ⟨wE, hwE⟩ : ∃ x, x = w3.alloc (.cells #[.int .i64 (M : Int), .slice (some ⟨go, 0, none⟩) nL co, .slice (some ⟨ga, 0, none⟩) nL ca] 34) := ⟨_, rfl⟩
  obtain ⟨hbE, hEE⟩ := box_err w3 _ _ _ wE hwE
  rw [← hwE]
  have h2E := hbb.trans (hbE.mono hbb.size)
  have HB := Lib.hid (H2.out.1.trans (h2E.mono H2.out.1.size))
  have his := is_wcg (A := A) (x := some (L, M)) (v := .iface 61 (.pointer (some ⟨b, 0, none⟩))) (a := (M : Int)) (po := some ⟨go, 0, none⟩) (pa := some ⟨ga, 0, none⟩) (n := nL) (co := co) (ca := ca) (H.out.1.below HB.out) (H.out.2.1.below HB.out) (fun y hy => by obtain rfl := Option.some.inj hy; exact H.out.2.2.1) ⟨b, rfl, H2.out.2.2.next h2E⟩ ⟨rfl, H.out.2.2.2.2.2.symm, hwv.below hbE⟩
  have HI := Lib.hid his
  obtain ⟨_, hc0, hc1, hc2⟩ := hEE.facts
  clear his hbb hwE hbE hEE h2E hwv
  go_wp2_with fail
  refine HI.out.mono ?_
  rintro e w4 ⟨rfl, hbb⟩
  have HZ := Lib.hid (HB.out.trans (hbb.mono HB.out.size))
  clear hbb HI hc0 hc1 hc2
  go_wp2_with fail
  go_ret
  exact ⟨rfl, HZ.out⟩
set_option maxRecDepth 100000 in
set_option maxHeartbeats 32000000 in
theorem orbits_ok (K R M P : Nat) (p q : Option Addr) (n c m d : Nat) (t l : List Int) (w : World) (A : Nat → Addr) (hr : Roots w A) (hn : n = t.length) (hm : m = l.length) (h : IntV w.heap.size w p c t) (h' : IntV w.heap.size w q d l) (ho : OkR K R t) (h0 : 0 < l.length) (h64 : l.length ≤ 64) (hw : okW K l) (hO : IsOrb K R t l M P) (hMP : M + P ≤ 4096) :
    Calls Tryd.prog 4 #[.agg #[.int .i64 (K : Int), .int .i64 (R : Int), .slice p n c], .slice q m d] w (Tells (.bool true) w) := by
  have ST := Lib.hid (box_rule w (.int .i64 (K : Int)) (.int .i64 (R : Int)) (.slice p n c))
  have hP1 := hO.pos
  have hsl : ∀ i, (stepsW K R t i l).length = m := fun i => by rw [stepsW_length]; exact hm.symm
  have cP : ∀ W, Below w.heap.size w W → Calls Tryd.prog 22 #[.agg #[.int .i64 (K : Int), .int .i64 (R : Int), .slice p n c], .slice q m d] W (Tells (.tuple #[.int .i64 (M : Int), .int .i64 (P : Int), .nilIface]) W) := fun W hW =>
    (gOrbit_ok K R p q n c m d t l W A (hr.below hW) hn hm (h.next hW) (h'.next hW) ho h0 h64 hw).mono fun e w' hp => by
      rcases hp with ⟨m', p', ho', _, he, hb⟩ | ⟨hd, _⟩
      · obtain ⟨rfl, rfl⟩ := ho'.unique hO
        exact ⟨he, hb⟩
      · exact absurd hO.again.symm (hd M (M + P) (by omega) hMP)
  have cR : ∀ W, Below w.heap.size w W → Calls Tryd.prog 23 #[.agg #[.int .i64 (K : Int), .int .i64 (R : Int), .slice p n c], .slice q m d] W (Tells (.tuple #[.int .i64 (M : Int), .int .i64 (P : Int), .agg #[.int .i64 0, .slice none 0 0, .slice none 0 0]]) W) := fun W hW =>
    (gorbit_ref_ok K R p q n c m d t l W hn hm (h.next hW) (h'.next hW) ho h0 h64 hw).mono fun e w' hp => by
      rcases hp with ⟨m', p', ho', _, he, hb⟩ | ⟨hd, _⟩
      · obtain ⟨rfl, rfl⟩ := ho'.unique hO
        exact ⟨he, hb⟩
      · exact absurd hO.again.symm (hd M (M + P) (by omega) hMP)
  have hq : ∀ N : Nat, N ≤ 4096 → N ≤ 262144 / l.length := fun N hN => by
    have h1 : 262144 / 64 ≤ 262144 / l.length := Nat.div_le_div_left (by omega) h0
    omega
  have cA : ∀ (W : World) (N : Nat), Below w.heap.size w W → N ≤ 4096 → Calls Tryd.prog 14 #[.agg #[.int .i64 (K : Int), .int .i64 (R : Int), .slice p n c], .slice q m d, .int .i64 (N : Int)] W fun e w' => ∃ pa ca, e = .returned (.tuple #[.slice pa m ca, .nilIface]) ∧ IntO W.heap.size w' pa ca (stepsW K R t N l) ∧ Below W.heap.size W w' := fun W N hW hN =>
    (gAfter_ok K R N p q n c m d t l W hn hm (h.next hW) (h'.next hW) ho h0 (by omega) hw (hq N hN)).mono fun e w' ⟨pa, ca, he, ho', hb⟩ => ⟨pa, ca, by rw [he, hsl], ho', hb⟩
  have hag := hO.again
  have hap := hO.apart
  have H := Lib.hid (And.intro hr (And.intro cP (And.intro cR (And.intro cA (And.intro hsl (And.intro hag hap))))))
  clear hr hn hm h h' ho h0 h64 hw hO hsl cP cR hq cA hag hap
  obtain ⟨Z, hZ⟩ : ∃ Z, M + P = Z := ⟨_, rfl⟩
  have wZ : IntKind.i64.wrap ((M : Int) + (P : Int)) = (Z : Int) := by rw [IntWalk.i64_in _ (by omega)]; omega
  have hZ4 : Z ≤ 4096 := by omega
  have HZZ := Lib.hid hZ
  clear hZ
  go_enter Tryd.func4, Tryd.ntmps4
  go_upto_region 1 with fail
  obtain ⟨w0, hw0⟩ : ∃ w0, w0 = w.alloc (.cells #[.int .i64 (K : Int), .int .i64 (R : Int), .slice p n c] 24) := ⟨_, rfl⟩
  rw [← hw0]
  obtain ⟨hb0, hE0⟩ := ST.out w0 hw0
  have HE := Lib.hid (And.intro hE0 hb0)
  clear hw0 hE0 hb0
  go_wp2_with fail
  refine (awakeG w0 A (H.out.1.below HE.out.2)).mono ?_
  rintro e w1 ⟨rfl, hb1⟩
  have H1 := Lib.hid (And.intro (HE.out.2.trans (hb1.mono HE.out.2.size)) (HE.out.1.next hb1))
  clear hb1
  obtain ⟨_, hc0, hc1, hc2⟩ := H1.out.2.facts
  go_wp2_with fail
  refine (H.out.2.1 w1 H1.out.1).mono ?_
  rintro e w2 ⟨rfl, hbb⟩
  have H2 := Lib.hid (And.intro (H1.out.1.trans (hbb.mono H1.out.1.size)) (H1.out.2.next hbb))
  clear hbb hc0 hc1 hc2
  obtain ⟨_, hc0, hc1, hc2⟩ := H2.out.2.facts
  go_wp2_with fail
  refine (H.out.2.2.1 w2 H2.out.1).mono ?_
  rintro e w3 ⟨rfl, hbb⟩
  clear hc0 hc1 hc2
  go_upto_region 5 with fail
  obtain ⟨wE, hwE⟩ : ∃ x, x = w3.alloc (.cells #[.int .i64 0, .slice none 0 0, .slice none 0 0] 34) := ⟨_, rfl⟩
  obtain ⟨hbE, hEE⟩ := box_err w3 _ _ _ wE hwE
  rw [← hwE]
  have h2E := hbb.trans (hbE.mono hbb.size)
  have H3 := Lib.hid (And.intro (H2.out.1.trans (h2E.mono H2.out.1.size)) (H2.out.2.next h2E))
  obtain ⟨_, hc0, hc1, hc2⟩ := hEE.facts
  clear hbb hwE hbE hEE h2E
  go_wp2_with fail
  refine (Is_none none none 0 0 0 0 wE).mono ?_
  rintro e w4 ⟨rfl, hbb⟩
  have H4 := Lib.hid (And.intro (H3.out.1.trans (hbb.mono H3.out.1.size)) (H3.out.2.next hbb))
  clear hbb hc0 hc1 hc2
  obtain ⟨_, hc0, hc1, hc2⟩ := H4.out.2.facts
  go_wp2_with fail
  refine (H.out.2.2.2.1 w4 M H4.out.1 (by omega)).mono ?_
  rintro e w5 ⟨pa, ca, rfl, hoo, hbb⟩
  have K5 := Lib.hid (((Si.start w4).next hbb).push hoo.toV)
  clear hoo hbb hc0 hc1 hc2
  have B5 := Lib.hid (H4.out.1.trans (K5.out.below.mono H4.out.1.size))
  obtain ⟨_, hc0, hc1, hc2⟩ := (H4.out.2.next K5.out.below).facts
  go_wp2_with fail
  refine (H.out.2.2.2.1 w5 Z B5.out hZ4).mono ?_
  rintro e w6 ⟨pb, cb, rfl, hoo, hbb⟩
  rw [← HZZ.out, H.out.2.2.2.2.2.1] at hoo
  have K6 := Lib.hid ((K5.out.next hbb).push hoo.toV)
  clear hoo hbb hc0 hc1 hc2
  go_wp2_with fail
  refine (ints_any pa pb m m ca cb (stepsW K R t M l) (stepsW K R t M l) w6 (H.out.2.2.2.2.1 M).symm (H.out.2.2.2.2.1 M).symm (K6.out.get 1 rfl) (K6.out.get 0 rfl)).mono ?_
  rintro e w7 ⟨rfl, hbb⟩
  rw [sameI_self]
  have K7 := Lib.hid (K6.out.next hbb)
  clear hbb
  have B7 := Lib.hid (H4.out.1.trans (K7.out.below.mono H4.out.1.size))
  have hP1' : ¬ (P : Int) < 1 := by omega
  have hM0' : ¬ (M : Int) < 0 := by omega
  obtain ⟨_, hc0, hc1, hc2⟩ := (H4.out.2.next K7.out.below).facts
  rcases Nat.eq_zero_or_pos M with hM | hM
  · subst hM
    go_wp2_with fail
    go_ret
    exact ⟨rfl, B7.out⟩
  · have hZM := HZZ.out
    obtain ⟨M1, hM1⟩ : ∃ x, M - 1 = x := ⟨_, rfl⟩
    obtain ⟨Z1, hZ1⟩ : ∃ x, Z - 1 = x := ⟨_, rfl⟩
    have wM1 : IntKind.i64.wrap ((M : Int) - 1) = (M1 : Int) := by rw [IntWalk.i64_in _ (by omega)]; omega
    have wZ1 : IntKind.i64.wrap ((Z : Int) - 1) = (Z1 : Int) := by rw [IntWalk.i64_in _ (by omega)]; omega
    have hMi : (0 : Int) < (M : Int) := by omega
    have HM1 := Lib.hid (show M1 < Z1 ∧ Z1 < M + P ∧ M1 ≤ 4096 ∧ Z1 ≤ 4096 by omega)
    clear hM1 hZ1 hZM
    go_wp2_with fail
    refine (H.out.2.2.2.1 w7 M1 B7.out HM1.out.2.2.1).mono ?_
    rintro e w8 ⟨pc, cc, rfl, hoo, hbb⟩
    have K8 := Lib.hid ((K7.out.next hbb).push hoo.toV)
    clear hoo hbb hc0 hc1 hc2
    have B8 := Lib.hid (H4.out.1.trans (K8.out.below.mono H4.out.1.size))
    obtain ⟨_, hc0, hc1, hc2⟩ := (H4.out.2.next K8.out.below).facts
    go_wp2_with fail
    refine (H.out.2.2.2.1 w8 Z1 B8.out HM1.out.2.2.2).mono ?_
    rintro e w9 ⟨pd, cd, rfl, hoo, hbb⟩
    have K9 := Lib.hid ((K8.out.next hbb).push hoo.toV)
    clear hoo hbb hc0 hc1 hc2
    have hne : stepsW K R t M1 l ≠ stepsW K R t Z1 l := H.out.2.2.2.2.2.2 M1 Z1 HM1.out.1 HM1.out.2.1
    have hie := ints_any pc pd m m cc cd (stepsW K R t M1 l) (stepsW K R t Z1 l) w9 (H.out.2.2.2.2.1 M1).symm (H.out.2.2.2.2.1 Z1).symm (K9.out.get 1 rfl) (K9.out.get 0 rfl)
    rw [sameI_ne hne] at hie
    have HIE := Lib.hid hie
    clear hie hne
    go_wp2_with fail
    refine HIE.out.mono ?_
    rintro e wA ⟨rfl, hbb⟩
    have HZ := Lib.hid (H4.out.1.trans ((K9.out.next hbb).below.mono H4.out.1.size))
    clear hbb
    go_wp2_with fail
    go_ret
    exact ⟨rfl, HZ.out⟩
theorem orbits_any (k r : Int) (p q : Option Addr) (n c m d : Nat) (t l : List Int) (w : World) (A : Nat → Addr) (hr : Roots w A) (hT : TypeVar w) (hn : n = t.length) (hm : m = l.length) (h : IntV w.heap.size w p c t) (h' : IntV w.heap.size w q d l) :
    Calls Tryd.prog 4 #[.agg #[.int .i64 k, .int .i64 r, .slice p n c], .slice q m d] w (Tells (.bool true) w) := by
  cases hc : chkO k r t l with
  | some y =>
    exact orbits_err k r p q n c m d w A hr hT y.1 y.2 (chkO_num y hc) (fun W hW => gOrbit_bad k r p q n c m d t l W A (hr.below hW) (hT.below hW) hn hm (h.next hW) (h'.next hW) y.1 y.2 hc) (fun W hW => gorbit_ref_bad k r p q n c m d t l W hn hm (h.next hW) (h'.next hW) y.1 y.2 hc)
  | none =>
    obtain ⟨K, R, rfl, rfl, ho, h0, h64, hw⟩ := chkO_none hc
    rcases Classical.em (∃ M P, IsOrb K R t l M P ∧ M + P ≤ 4096) with ⟨M, P, hO, hMP⟩ | hno
    · exact orbits_ok K R M P p q n c m d t l w A hr hn hm h h' ho h0 h64 hw hO hMP
    · exact orbits_err (K : Int) (R : Int) p q n c m d w A hr hT [(ringOp, 1)] 4 (by decide) (fun W hW => (gOrbit_ok K R p q n c m d t l W A (hr.below hW) hn hm (h.next hW) (h'.next hW) ho h0 h64 hw).mono fun e w' hp => by
        rcases hp with ⟨M, P, hO, hMP, _⟩ | ⟨_, hp⟩
        · exact absurd ⟨M, P, hO, hMP⟩ hno
        · exact hp) (fun W hW => (gorbit_ref_ok K R p q n c m d t l W hn hm (h.next hW) (h'.next hW) ho h0 h64 hw).mono fun e w' hp => by
        rcases hp with ⟨M, P, hO, hMP, _⟩ | ⟨_, hp⟩
        · exact absurd ⟨M, P, hO, hMP⟩ hno
        · exact hp)
end Go.Proofs.YtgdjnohhofbcnaaDoor
