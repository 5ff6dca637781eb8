/- RowWindows: its walk. -/
import Derived.Test.YtfgoflaeclfggaaDoorB5
import Derived.Test.YtfgoflaeclfggaaDoorB4
import Derived.Test.YtfgoflaeclfggaaDoorBRwRingsWalk
namespace Go.Proofs.YtfgoflaeclfggaaDoor
open Go.RowKit Go.Extern.Stop Go.Stop Go.Extern WordM RuleM NatM

theorem three_in (w : World) (a b c a' b' c' d' x y z v : Value) (w0 : World) (hw0 : w0 = ((w.alloc (.cells #[a, b, c] 53)).alloc (.cells #[a', b', c', d'] 24)).alloc (.cells #[x, y, z, v] 24)) :
    Below w.heap.size w w0 ∧ Rul3 w0 w.heap.size a b c ∧ Row4 w0 (w.heap.size + 1) a' b' c' d' ∧ Row4 w0 (w.heap.size + 1 + 1) x y z v := by
  obtain ⟨h1, h2, h3⟩ := box_rule_row w a b c a' b' c' d' _ rfl
  obtain ⟨h4, h5⟩ := box_row ((w.alloc (.cells #[a, b, c] 53)).alloc (.cells #[a', b', c', d'] 24)) x y z v w0 hw0
  have hs : ((w.alloc (.cells #[a, b, c] 53)).alloc (.cells #[a', b', c', d'] 24)).heap.size = w.heap.size + 1 + 1 := by simp
  rw [hs] at h5
  exact ⟨h1.trans (h4.mono h1.size), h2.next h4, h3.next h4, h5⟩
set_option maxRecDepth 100000 in
set_option maxHeartbeats 32000000 in
theorem rwin_bad (k r a a' y : Int) (pt : Option Addr) (nt ct : Nat) (t : List Int) (p q s : Option Addr) (n c m d u e : Nat) (L C R : List Int) (p' q' s' : Option Addr) (n' c' m' d' u' e' : Nat) (w : World) (A : Nat → Addr) (hr : Roots w A) (hnt : nt = t.length) (ht : IntV w.heap.size w pt ct t) (h : RowV w p q s n c m d u e L C R) (hn : n ≤ 17592186043904) (hm : m ≤ 17592186043904) (hu : u ≤ 17592186043904) (M : List (ByteArray × Int)) (N : Nat) (hc : chkZ k r t a L C R = some (M, N)) :
    Calls Tryd.prog 6 #[.agg #[.int .i64 k, .int .i64 r, .slice pt nt ct], .agg #[.int .i64 a, .slice p n c, .slice q m d, .slice s u e], .agg #[.int .i64 a', .slice p' n' c', .slice q' m' d', .slice s' u' e'], .int .i64 y] w (Tells (.bool true) w) := by
  have HC := Lib.hid (fun W hr ht h => rStep_bad k r a pt nt ct t p q s n c m d u e L C R W A hr hnt ht h hn hm hu M N hc)
  have HR := Lib.hid hr
  have HV := Lib.hid (And.intro ht h)
  clear hr h ht hnt hc hn hm hu
  go_enter Tryd.func6, Tryd.ntmps6
  go_upto_region 1 with fail
  obtain ⟨w0, hw0⟩ : ∃ w0, w0 = ((w.alloc (.cells #[.int .i64 k, .int .i64 r, .slice pt nt ct] 53)).alloc (.cells #[.int .i64 a, .slice p n c, .slice q m d, .slice s u e] 24)).alloc (.cells #[.int .i64 a', .slice p' n' c', .slice q' m' d', .slice s' u' e'] 24) := ⟨_, rfl⟩
  rw [← hw0]
  obtain ⟨hb0, hE0, hF0, hG0⟩ := three_in w _ _ _ _ _ _ _ _ _ _ _ w0 hw0
  have HE := Lib.hid (And.intro hE0 (And.intro hF0 (And.intro hG0 hb0)))
  clear hw0 hE0 hF0 hG0 hb0
  go_wp2_with fail
  refine (awakeRw w0 A (HR.out.below HE.out.2.2.2)).mono ?_
  rintro e1 w1 ⟨rfl, hb1⟩
  have H1 := Lib.hid (And.intro (HE.out.1.next hb1) (And.intro (HE.out.2.1.next hb1) (And.intro (HE.out.2.2.1.next hb1) (HE.out.2.2.2.trans (hb1.mono HE.out.2.2.2.size)))))
  clear hb1
  obtain ⟨_, hc0, hc1, hc2⟩ := H1.out.1.facts
  obtain ⟨hd0, hd1, hd2, hd3⟩ := H1.out.2.1.facts
  go_wp2_with fail
  refine (HC.out w1 (HR.out.below H1.out.2.2.2) (HV.out.1.next H1.out.2.2.2) (HV.out.2.next H1.out.2.2.2)).mono ?_
  rintro e2 w2 ⟨b, rfl, _, hb2⟩
  clear hc0 hc1 hc2 hd0 hd1 hd2 hd3
  go_upto_region 4 with fail
  obtain ⟨w3, hw3⟩ : ∃ x, x = w2.alloc (.cells #[.int .i64 0, .slice none 0 0, .slice none 0 0, .slice none 0 0] 24) := ⟨_, rfl⟩
  rw [← hw3]
  obtain ⟨hb3, hE3⟩ := box_row w2 _ _ _ _ w3 hw3
  have H3 := Lib.hid ((H1.out.2.2.2.trans (hb2.mono H1.out.2.2.2.size)).trans (hb3.mono (Nat.le_trans H1.out.2.2.2.size hb2.size)))
  obtain ⟨hf0, hf1, hf2, hf3⟩ := hE3.facts
  clear hb2 hw3 hb3 hE3
  go_wp2_with fail
  go_ret
  exact ⟨rfl, H3.out⟩
set_option maxRecDepth 100000 in
set_option maxHeartbeats 32000000 in
theorem rwin_half (k r : Nat) (a a' y : Int) (pt : Option Addr) (nt ct : Nat) (t : List Int) (p q s : Option Addr) (n c m d u e : Nat) (L C R : List Int) (p' q' s' : Option Addr) (n' c' m' d' u' e' : Nat) (L' C' R' : List Int) (w : World) (A : Nat → Addr) (hr : Roots w A) (hnt : nt = t.length) (ht : IntV w.heap.size w pt ct t) (h : RowV w p q s n c m d u e L C R) (h' : RowV w p' q' s' n' c' m' d' u' e' L' C' R') (hn' : n' ≤ 17592186043904) (hm' : m' ≤ 17592186043904) (hu' : u' ≤ 17592186043904) (ho : OkR k r t) (hw : OkRw k a L C R) (ha : -4096 ≤ a - (r : Int)) (hcc : C.length + 2 * r ≤ 16384) (M : List (ByteArray × Int)) (N : Nat) (hc2 : chkZ (k : Int) (r : Int) t a' L' C' R' = some (M, N)) :
    Calls Tryd.prog 6 #[.agg #[.int .i64 (k : Int), .int .i64 (r : Int), .slice pt nt ct], .agg #[.int .i64 a, .slice p n c, .slice q m d, .slice s u e], .agg #[.int .i64 a', .slice p' n' c', .slice q' m' d', .slice s' u' e'], .int .i64 y] w (Tells (.bool true) w) := by
  have h3 := ho.r3
  obtain ⟨D, hD4, q1, q2, q3⟩ := round_modG y 9000 (by omega) (by omega)
  obtain ⟨ys, hys⟩ : ∃ z, y.tmod ((9000 : Nat) : Int) = z := ⟨_, rfl⟩
  rw [hys] at q1 q2 q3
  have hys' : y.tmod 9000 = ys := hys
  have q3' : (ys + 9000).tmod 9000 = (D : Int) := q3
  have wys : IntKind.i64.wrap (ys + 9000) = ys + 9000 := by rw [IntWalk.i64_in _ (by omega)]
  obtain ⟨i, hi⟩ : ∃ i, (D : Int) - 4500 = i := ⟨_, rfl⟩
  have wD : IntKind.i64.wrap ((D : Int) - 4500) = i := by rw [IntWalk.i64_in _ (by omega)]; exact hi
  have hi1 : -4500 ≤ i := by omega
  have hi2 : i ≤ 4500 := by omega
  obtain ⟨ir, hir⟩ : ∃ x, i - (r : Int) = x := ⟨_, rfl⟩
  have wir : IntKind.i64.wrap (i - (r : Int)) = ir := by rw [IntWalk.i64_in _ (by omega)]; exact hir
  have w2r : IntKind.i64.wrap (2 * (r : Int)) = 2 * (r : Int) := by rw [IntWalk.i64_in _ (by omega)]
  obtain ⟨V6, hV6⟩ : ∃ x, 60 + 2 * r = x := ⟨_, rfl⟩
  have w60 : IntKind.i64.wrap (60 + 2 * (r : Int)) = (V6 : Int) := by rw [IntWalk.i64_in _ (by omega)]; omega
  obtain ⟨fr, hfr⟩ : ∃ x, a - (r : Int) = x := ⟨_, rfl⟩
  obtain ⟨V, hVV⟩ : ∃ x, m + 2 * r = x := ⟨_, rfl⟩
  have l1 : (imgL k r t a L C R).length = n := (imgR_length _ _ _ _ _ _ _ _ _).trans h.hn.symm
  have l2 : (imgC k r t a L C R).length = V := (imgR_length _ _ _ _ _ _ _ _ _).trans (by rw [← h.hm]; exact hVV)
  have l3 : (imgT k r t a L C R).length = u := (imgR_length _ _ _ _ _ _ _ _ _).trans h.hu.symm
  have hpi := piece_img (k := k) (r := r) (t := t) (a := a) (L := L) (C := C) (R := R) hw.l0 hw.r0 i 60
  have him := img_ok ho hw ha hcc
  rw [hir, hV6] at hpi
  obtain ⟨X1, hX1⟩ : ∃ X, imgL k r t a L C R = X := ⟨_, rfl⟩
  obtain ⟨X2, hX2⟩ : ∃ X, imgC k r t a L C R = X := ⟨_, rfl⟩
  obtain ⟨X3, hX3⟩ : ∃ X, imgT k r t a L C R = X := ⟨_, rfl⟩
  rw [hX1] at l1
  rw [hX2] at l2
  rw [hX3] at l3
  rw [hX1, hX2, hX3, hfr] at hpi him
  have cS : ∀ (W : World), Below w.heap.size w W → Calls Tryd.prog 24 #[.agg #[.int .i64 (k : Int), .int .i64 (r : Int), .slice pt nt ct], .agg #[.int .i64 a, .slice p n c, .slice q m d, .slice s u e]] W (RowOkN W fr n V u X1 X2 X3) := fun W hW => by
    have h1 := rStep_ok k r a pt nt ct t p q s n c m d u e L C R W hnt (ht.next hW) (h.next hW) ho hw ha hcc
    rw [hX1, hX2, hX3, hfr] at h1
    exact h1.mono fun e1 w' hp => hp.lens l1 l2 l3
  have hQl := pieceR_length a L C R ir V6
  have hQo := pieceR_ok hw ir V6
  have hPl := pieceR_length fr X1 X2 X3 i 60
  obtain ⟨Q, hQ⟩ : ∃ Q, pieceR a L C R ir V6 = Q := ⟨_, rfl⟩
  obtain ⟨G, hG⟩ : ∃ Q, pieceR fr X1 X2 X3 i 60 = Q := ⟨_, rfl⟩
  rw [hQ, hG] at hpi
  rw [hQ] at hQl hQo
  rw [hG] at hPl
  have cP : ∀ (W : World) (p1 p2 p3 : Option Addr) (c1 c2 c3 : Nat), IntV W.heap.size W p1 c1 X1 → IntV W.heap.size W p2 c2 X2 → IntV W.heap.size W p3 c3 X3 → Calls Tryd.prog 13 #[.int .i64 (k : Int), .agg #[.int .i64 fr, .slice p1 n c1, .slice p2 V c2, .slice p3 u c3], .int .i64 i, .int .i64 60] W fun e' w' => ∃ pa ca, e' = .returned (.tuple #[.slice pa 60 ca, .nilIface]) ∧ IntO W.heap.size w' pa ca G ∧ Below W.heap.size W w' := fun W p1 p2 p3 c1 c2 c3 h1 h2 h3 => by
    have h4 := rCut_ok k fr i 60 p1 p2 p3 n c1 V c2 u c3 X1 X2 X3 W ⟨l1.symm, l2.symm, l3.symm, h1, h2, h3⟩ him (by omega) (by omega) (by omega)
    rw [hG] at h4
    exact h4.mono fun e1 w' ⟨pa, ca, he, ho, hb⟩ => ⟨pa, ca, by rw [he, hPl], ho, hb⟩
  have cQ : ∀ (W : World), Below w.heap.size w W → Calls Tryd.prog 13 #[.int .i64 (k : Int), .agg #[.int .i64 a, .slice p n c, .slice q m d, .slice s u e], .int .i64 ir, .int .i64 (V6 : Int)] W fun e' w' => ∃ pa ca, e' = .returned (.tuple #[.slice pa V6 ca, .nilIface]) ∧ IntO W.heap.size w' pa ca Q ∧ Below W.heap.size W w' := fun W hW => by
    have h4 := rCut_ok k a ir V6 p q s n c m d u e L C R W (h.next hW) hw (by omega) (by omega) (by omega)
    rw [hQ] at h4
    exact h4.mono fun e1 w' ⟨pa, ca, he, ho, hb⟩ => ⟨pa, ca, by rw [he, hQl], ho, hb⟩
  have cT : ∀ (W : World) (x : Option Addr) (z : Nat), Below w.heap.size w W → IntV W.heap.size W x z Q → Calls Tryd.prog 28 #[.agg #[.int .i64 (k : Int), .int .i64 (r : Int), .slice pt nt ct], .slice x V6 z] W fun e' w' => ∃ pa ca, e' = .returned (.tuple #[.slice pa 60 ca, .nilIface]) ∧ IntO W.heap.size w' pa ca G ∧ Below W.heap.size W w' := fun W x z hW hx => by
    have h4 := step_ok (k : Int) (r : Int) pt x nt ct V6 z t Q W hnt hQl.symm (ht.next hW) hx (chkT_ok ho (by omega) hQo)
    rw [Int.toNat_natCast, Int.toNat_natCast, ← hpi] at h4
    exact h4.mono fun e1 w' ⟨pa, ca, he, ho, hb⟩ => ⟨pa, ca, by rw [he, hPl], ho, hb⟩
  have cI : ∀ (W : World) (x z : Option Addr) (f g : Nat), IntV W.heap.size W x f G → IntV W.heap.size W z g G → Calls Tryd.prog 18 #[.slice x 60 f, .slice z 60 g] W (Tells (.bool true) W) := fun W x z f g h1 h2 => by
    have := ints_any x z 60 60 f g G G W hPl.symm hPl.symm h1 h2
    rwa [sameI_self] at this
  have hn : n ≤ 17592186043904 := by have := hw.l1; have := h.hn; omega
  have hm : m ≤ 17592186043904 := by have := hw.c1; have := h.hm; omega
  have hu : u ≤ 17592186043904 := by have := hw.r1; have := h.hu; omega
  have cB := fun W hr hW => rStep_bad (k : Int) (r : Int) a' pt nt ct t p' q' s' n' c' m' d' u' e' L' C' R' W A hr hnt (ht.next hW) (h'.next hW) hn' hm' hu' M N hc2
  have cE : ∀ (W : World), Roots W A → Below w.heap.size w W → Calls Tryd.prog 20 #[.int .i64 (k : Int), .agg #[.int .i64 a, .slice p n c, .slice q m d, .slice s u e], .agg #[.int .i64 a', .slice p' n' c', .slice q' m' d', .slice s' u' e']] W fun e' w' => ∃ b v, e' = .returned (.tuple #[.bool b, v]) ∧ (v = .nilIface ∨ ∃ g, v = .iface 73 (.pointer (some ⟨g, 0, none⟩))) ∧ Below W.heap.size W w' := fun W hr hW => by
    cases hce : chkE (k : Int) a L C R a' L' C' R' with
    | some z =>
      exact (rSame_bad (k : Int) a a' p q s p' q' s' n c m d u e n' c' m' d' u' e' L C R L' C' R' W A hr (h.next hW) (h'.next hW) hn hm hu hn' hm' hu' z.1 z.2 hce).mono fun e1 w' ⟨b, he, _, hb⟩ => ⟨false, _, he, Or.inr ⟨b, rfl⟩, hb⟩
    | none =>
      obtain ⟨_, h2⟩ := chkE_none hce
      obtain ⟨K', hK, hw'⟩ := chkRw_none h2
      obtain rfl : k = K' := by omega
      obtain ⟨B, hB⟩ : ∃ B : Bool, B = true ↔ OneR a L C R a' L' C' R' := by
        by_cases ho : OneR a L C R a' L' C' R'
        · exact ⟨true, fun _ => ho, fun _ => rfl⟩
        · exact ⟨false, fun hf => (by cases hf), fun hf => absurd hf ho⟩
      exact (rSame_ok k a a' p q s p' q' s' n c m d u e n' c' m' d' u' e' L C R L' C' R' W (h.next hW) (h'.next hW) hw hw' B hB).mono fun e1 w' ⟨he, hb⟩ => ⟨B, _, he, Or.inl rfl, hb⟩
  have HB := Lib.hid (And.intro cB cE)
  have HC := Lib.hid (And.intro cS (And.intro cP (And.intro cQ (And.intro cT cI))))
  have HR := Lib.hid hr
  clear hr h ht hnt ho hw ha hcc h3 q1 q2 q3 hD4 hys hi hir hV6 hfr hVV l1 l2 l3 hpi him hX1 hX2 hX3 hQl hQo hPl hQ hG cS cP cQ cT cI h' hc2 hn hm hu hn' hm' hu' cB cE
  go_enter Tryd.func6, Tryd.ntmps6
  go_upto_region 1 with fail
  obtain ⟨w0, hw0⟩ : ∃ w0, w0 = ((w.alloc (.cells #[.int .i64 (k : Int), .int .i64 (r : Int), .slice pt nt ct] 53)).alloc (.cells #[.int .i64 a, .slice p n c, .slice q m d, .slice s u e] 24)).alloc (.cells #[.int .i64 a', .slice p' n' c', .slice q' m' d', .slice s' u' e'] 24) := ⟨_, rfl⟩
  rw [← hw0]
  obtain ⟨hb0, hE0, hF0, hG0⟩ := three_in w _ _ _ _ _ _ _ _ _ _ _ w0 hw0
  have HE := Lib.hid (And.intro hE0 (And.intro hF0 (And.intro hG0 hb0)))
  clear hw0 hE0 hF0 hG0 hb0
  go_wp2_with fail
  refine (awakeRw w0 A (HR.out.below HE.out.2.2.2)).mono ?_
  rintro e1 w1 ⟨rfl, hb1⟩
  have H1 := Lib.hid (And.intro (HE.out.1.next hb1) (And.intro (HE.out.2.1.next hb1) (And.intro (HE.out.2.2.1.next hb1) (HE.out.2.2.2.trans (hb1.mono HE.out.2.2.2.size)))))
  clear hb1
  obtain ⟨_, hc0, hc1, hc2⟩ := H1.out.1.facts
  obtain ⟨hd0, hd1, hd2, hd3⟩ := H1.out.2.1.facts
  go_wp2_with fail
  refine (HC.out.1 w1 H1.out.2.2.2).mono ?_
  rintro e2 w2 ⟨p1, c1, p2, c2, p3, c3, s1, s2, rfl, o1, o2, o3, _, _, _, _, _, hb2⟩
  clear hc0 hc1 hc2 hd0 hd1 hd2 hd3
  go_upto_region 4 with fail
  obtain ⟨w3, hw3⟩ : ∃ x, x = w2.alloc (.cells #[.int .i64 fr, .slice p1 n c1, .slice p2 V c2, .slice p3 u c3] 24) := ⟨_, rfl⟩
  rw [← hw3]
  obtain ⟨hb3, hE3⟩ := box_row w2 _ _ _ _ w3 hw3
  obtain ⟨g9, hg9⟩ : ∃ x, w2.heap.size = x := ⟨_, rfl⟩
  rw [hg9] at hE3 ⊢
  have hb13 : Below w1.heap.size w1 w3 := hb2.trans (hb3.mono hb2.size)
  have H3 := Lib.hid (And.intro (H1.out.2.2.2.trans (hb13.mono H1.out.2.2.2.size)) (And.intro (o1.toV.next hb3) (And.intro (o2.toV.next hb3) (o3.toV.next hb3))))
  have hx : ∀ W, Below w3.heap.size w3 W → (W.cell? ⟨w.heap.size, 0, none⟩ = some (.int .i64 (k : Int)) ∧ W.cell? ⟨w.heap.size, 1, none⟩ = some (.int .i64 (r : Int)) ∧ W.cell? ⟨w.heap.size, 2, none⟩ = some (.slice pt nt ct)) ∧ (W.cell? ⟨w.heap.size + 1, 0, none⟩ = some (.int .i64 a) ∧ W.cell? ⟨w.heap.size + 1, 1, none⟩ = some (.slice p n c) ∧ W.cell? ⟨w.heap.size + 1, 2, none⟩ = some (.slice q m d) ∧ W.cell? ⟨w.heap.size + 1, 3, none⟩ = some (.slice s u e)) ∧ (W.cell? ⟨w.heap.size + 1 + 1, 0, none⟩ = some (.int .i64 a') ∧ W.cell? ⟨w.heap.size + 1 + 1, 1, none⟩ = some (.slice p' n' c') ∧ W.cell? ⟨w.heap.size + 1 + 1, 2, none⟩ = some (.slice q' m' d') ∧ W.cell? ⟨w.heap.size + 1 + 1, 3, none⟩ = some (.slice s' u' e')) ∧ (W.cell? ⟨g9, 0, none⟩ = some (.int .i64 fr) ∧ W.cell? ⟨g9, 1, none⟩ = some (.slice p1 n c1) ∧ W.cell? ⟨g9, 2, none⟩ = some (.slice p2 V c2) ∧ W.cell? ⟨g9, 3, none⟩ = some (.slice p3 u c3)) := fun W hb => ⟨((H1.out.1.next hb13).next hb).facts.2, ((H1.out.2.1.next hb13).next hb).facts, ((H1.out.2.2.1.next hb13).next hb).facts, (hE3.next hb).facts⟩
  have F3 := Lib.hid hx
  clear hb2 hw3 hb3 hE3 hg9 o1 o2 o3 hb13 hx
  obtain ⟨⟨hc0, hc1, hc2⟩, ⟨hd0, hd1, hd2, hd3⟩, ⟨he0, he1, he2, he3⟩, hf0, hf1, hf2, hf3⟩ := F3.out w3 (Below.refl _ _)
  go_wp2_with fail
  refine (HC.out.2.1 w3 p1 p2 p3 c1 c2 c3 H3.out.2.1 H3.out.2.2.1 H3.out.2.2.2).mono ?_
  rintro e4 w4 ⟨p4, c4, rfl, o4, hb4⟩
  have S4 := Lib.hid ((Si.start w3).next hb4 |>.push o4.toV)
  clear o4 hb4 hc0 hc1 hc2 hd0 hd1 hd2 hd3 he0 he1 he2 he3 hf0 hf1 hf2 hf3
  obtain ⟨⟨hc0, hc1, hc2⟩, ⟨hd0, hd1, hd2, hd3⟩, ⟨he0, he1, he2, he3⟩, hf0, hf1, hf2, hf3⟩ := F3.out w4 S4.out.below
  go_wp2_with fail
  refine (HC.out.2.2.1 w4 (H3.out.1.trans (S4.out.below.mono H3.out.1.size))).mono ?_
  rintro e5 w5 ⟨p5, c5, rfl, o5, hb5⟩
  have S5 := Lib.hid ((S4.out.next hb5).push o5.toV)
  clear o5 hb5 hc0 hc1 hc2 hd0 hd1 hd2 hd3 he0 he1 he2 he3 hf0 hf1 hf2 hf3
  obtain ⟨⟨hc0, hc1, hc2⟩, ⟨hd0, hd1, hd2, hd3⟩, ⟨he0, he1, he2, he3⟩, hf0, hf1, hf2, hf3⟩ := F3.out w5 S5.out.below
  go_wp2_with fail
  refine (HC.out.2.2.2.1 w5 p5 c5 (H3.out.1.trans (S5.out.below.mono H3.out.1.size)) (S5.out.get 0 rfl)).mono ?_
  rintro e6 w6 ⟨p6, c6, rfl, o6, hb6⟩
  have S6 := Lib.hid ((S5.out.next hb6).push o6.toV)
  clear o6 hb6 hc0 hc1 hc2 hd0 hd1 hd2 hd3 he0 he1 he2 he3 hf0 hf1 hf2 hf3
  go_wp2_with fail
  refine (HC.out.2.2.2.2 w6 p4 p6 c4 c6 (S6.out.get 2 rfl) (S6.out.get 0 rfl)).mono ?_
  rintro e7 w7 ⟨rfl, hb7⟩
  have S7 := Lib.hid (S6.out.next hb7)
  clear hb7
  obtain ⟨⟨hc0, hc1, hc2⟩, ⟨hd0, hd1, hd2, hd3⟩, ⟨he0, he1, he2, he3⟩, hf0, hf1, hf2, hf3⟩ := F3.out w7 S7.out.below
  go_wp2_with fail
  refine (HB.out.1 w7 ((HR.out.below H3.out.1).below S7.out.below) (H3.out.1.trans (S7.out.below.mono H3.out.1.size))).mono ?_
  rintro e8 w8 ⟨b8, rfl, _, hb8⟩
  clear hc0 hc1 hc2 hd0 hd1 hd2 hd3 he0 he1 he2 he3 hf0 hf1 hf2 hf3
  go_upto_region 13 with fail
  obtain ⟨w9, hw9⟩ : ∃ x, x = w8.alloc (.cells #[.int .i64 0, .slice none 0 0, .slice none 0 0, .slice none 0 0] 24) := ⟨_, rfl⟩
  rw [← hw9]
  obtain ⟨hb9, _⟩ := box_row w8 _ _ _ _ w9 hw9
  have S9 := Lib.hid ((S7.out.next hb8).next hb9)
  clear hw9 hb8 hb9
  obtain ⟨⟨hc0, hc1, hc2⟩, ⟨hd0, hd1, hd2, hd3⟩, ⟨he0, he1, he2, he3⟩, hf0, hf1, hf2, hf3⟩ := F3.out w9 S9.out.below
  go_wp2_with fail
  refine (HB.out.2 w9 ((HR.out.below H3.out.1).below S9.out.below) (H3.out.1.trans (S9.out.below.mono H3.out.1.size))).mono ?_
  rintro e9 wa ⟨B, v, rfl, hv, hba⟩
  have HZ := Lib.hid ((H3.out.1.trans (S9.out.below.mono H3.out.1.size)).trans (hba.mono (Nat.le_trans H3.out.1.size S9.out.below.size)))
  clear hba hc0 hc1 hc2 hd0 hd1 hd2 hd3 he0 he1 he2 he3 hf0 hf1 hf2 hf3
  rcases hv with rfl | ⟨g, rfl⟩
  all_goals
    go_wp2_with fail
    go_ret
    exact ⟨rfl, HZ.out⟩
set_option maxRecDepth 100000 in
set_option maxHeartbeats 32000000 in
theorem rwin_ok (k r : Nat) (a a' y : Int) (pt : Option Addr) (nt ct : Nat) (t : List Int) (p q s : Option Addr) (n c m d u e : Nat) (L C R : List Int) (p' q' s' : Option Addr) (n' c' m' d' u' e' : Nat) (L' C' R' : List Int) (w : World) (A : Nat → Addr) (hr : Roots w A) (hnt : nt = t.length) (ht : IntV w.heap.size w pt ct t) (h : RowV w p q s n c m d u e L C R) (h' : RowV w p' q' s' n' c' m' d' u' e' L' C' R') (ho : OkR k r t) (hw : OkRw k a L C R) (ha : -4096 ≤ a - (r : Int)) (hcc : C.length + 2 * r ≤ 16384) (hw' : OkRw k a' L' C' R') (ha' : -4096 ≤ a' - (r : Int)) (hcc' : C'.length + 2 * r ≤ 16384) :
    Calls Tryd.prog 6 #[.agg #[.int .i64 (k : Int), .int .i64 (r : Int), .slice pt nt ct], .agg #[.int .i64 a, .slice p n c, .slice q m d, .slice s u e], .agg #[.int .i64 a', .slice p' n' c', .slice q' m' d', .slice s' u' e'], .int .i64 y] w (Tells (.bool true) w) := by
  have h3 := ho.r3
  obtain ⟨D, hD4, q1, q2, q3⟩ := round_modG y 9000 (by omega) (by omega)
  obtain ⟨ys, hys⟩ : ∃ z, y.tmod ((9000 : Nat) : Int) = z := ⟨_, rfl⟩
  rw [hys] at q1 q2 q3
  have hys' : y.tmod 9000 = ys := hys
  have q3' : (ys + 9000).tmod 9000 = (D : Int) := q3
  have wys : IntKind.i64.wrap (ys + 9000) = ys + 9000 := by rw [IntWalk.i64_in _ (by omega)]
  obtain ⟨i, hi⟩ : ∃ i, (D : Int) - 4500 = i := ⟨_, rfl⟩
  have wD : IntKind.i64.wrap ((D : Int) - 4500) = i := by rw [IntWalk.i64_in _ (by omega)]; exact hi
  have hi1 : -4500 ≤ i := by omega
  have hi2 : i ≤ 4500 := by omega
  obtain ⟨ir, hir⟩ : ∃ x, i - (r : Int) = x := ⟨_, rfl⟩
  have wir : IntKind.i64.wrap (i - (r : Int)) = ir := by rw [IntWalk.i64_in _ (by omega)]; exact hir
  have w2r : IntKind.i64.wrap (2 * (r : Int)) = 2 * (r : Int) := by rw [IntWalk.i64_in _ (by omega)]
  obtain ⟨V6, hV6⟩ : ∃ x, 60 + 2 * r = x := ⟨_, rfl⟩
  have w60 : IntKind.i64.wrap (60 + 2 * (r : Int)) = (V6 : Int) := by rw [IntWalk.i64_in _ (by omega)]; omega
  obtain ⟨fr, hfr⟩ : ∃ x, a - (r : Int) = x := ⟨_, rfl⟩
  obtain ⟨V, hVV⟩ : ∃ x, m + 2 * r = x := ⟨_, rfl⟩
  have l1 : (imgL k r t a L C R).length = n := (imgR_length _ _ _ _ _ _ _ _ _).trans h.hn.symm
  have l2 : (imgC k r t a L C R).length = V := (imgR_length _ _ _ _ _ _ _ _ _).trans (by rw [← h.hm]; exact hVV)
  have l3 : (imgT k r t a L C R).length = u := (imgR_length _ _ _ _ _ _ _ _ _).trans h.hu.symm
  have hpi := piece_img (k := k) (r := r) (t := t) (a := a) (L := L) (C := C) (R := R) hw.l0 hw.r0 i 60
  have him := img_ok ho hw ha hcc
  rw [hir, hV6] at hpi
  obtain ⟨X1, hX1⟩ : ∃ X, imgL k r t a L C R = X := ⟨_, rfl⟩
  obtain ⟨X2, hX2⟩ : ∃ X, imgC k r t a L C R = X := ⟨_, rfl⟩
  obtain ⟨X3, hX3⟩ : ∃ X, imgT k r t a L C R = X := ⟨_, rfl⟩
  rw [hX1] at l1
  rw [hX2] at l2
  rw [hX3] at l3
  rw [hX1, hX2, hX3, hfr] at hpi him
  have cS : ∀ (W : World), Below w.heap.size w W → Calls Tryd.prog 24 #[.agg #[.int .i64 (k : Int), .int .i64 (r : Int), .slice pt nt ct], .agg #[.int .i64 a, .slice p n c, .slice q m d, .slice s u e]] W (RowOkN W fr n V u X1 X2 X3) := fun W hW => by
    have h1 := rStep_ok k r a pt nt ct t p q s n c m d u e L C R W hnt (ht.next hW) (h.next hW) ho hw ha hcc
    rw [hX1, hX2, hX3, hfr] at h1
    exact h1.mono fun e1 w' hp => hp.lens l1 l2 l3
  have hQl := pieceR_length a L C R ir V6
  have hQo := pieceR_ok hw ir V6
  have hPl := pieceR_length fr X1 X2 X3 i 60
  obtain ⟨Q, hQ⟩ : ∃ Q, pieceR a L C R ir V6 = Q := ⟨_, rfl⟩
  obtain ⟨G, hG⟩ : ∃ Q, pieceR fr X1 X2 X3 i 60 = Q := ⟨_, rfl⟩
  rw [hQ, hG] at hpi
  rw [hQ] at hQl hQo
  rw [hG] at hPl
  have cP : ∀ (W : World) (p1 p2 p3 : Option Addr) (c1 c2 c3 : Nat), IntV W.heap.size W p1 c1 X1 → IntV W.heap.size W p2 c2 X2 → IntV W.heap.size W p3 c3 X3 → Calls Tryd.prog 13 #[.int .i64 (k : Int), .agg #[.int .i64 fr, .slice p1 n c1, .slice p2 V c2, .slice p3 u c3], .int .i64 i, .int .i64 60] W fun e' w' => ∃ pa ca, e' = .returned (.tuple #[.slice pa 60 ca, .nilIface]) ∧ IntO W.heap.size w' pa ca G ∧ Below W.heap.size W w' := fun W p1 p2 p3 c1 c2 c3 h1 h2 h3 => by
    have h4 := rCut_ok k fr i 60 p1 p2 p3 n c1 V c2 u c3 X1 X2 X3 W ⟨l1.symm, l2.symm, l3.symm, h1, h2, h3⟩ him (by omega) (by omega) (by omega)
    rw [hG] at h4
    exact h4.mono fun e1 w' ⟨pa, ca, he, ho, hb⟩ => ⟨pa, ca, by rw [he, hPl], ho, hb⟩
  have cQ : ∀ (W : World), Below w.heap.size w W → Calls Tryd.prog 13 #[.int .i64 (k : Int), .agg #[.int .i64 a, .slice p n c, .slice q m d, .slice s u e], .int .i64 ir, .int .i64 (V6 : Int)] W fun e' w' => ∃ pa ca, e' = .returned (.tuple #[.slice pa V6 ca, .nilIface]) ∧ IntO W.heap.size w' pa ca Q ∧ Below W.heap.size W w' := fun W hW => by
    have h4 := rCut_ok k a ir V6 p q s n c m d u e L C R W (h.next hW) hw (by omega) (by omega) (by omega)
    rw [hQ] at h4
    exact h4.mono fun e1 w' ⟨pa, ca, he, ho, hb⟩ => ⟨pa, ca, by rw [he, hQl], ho, hb⟩
  have cT : ∀ (W : World) (x : Option Addr) (z : Nat), Below w.heap.size w W → IntV W.heap.size W x z Q → Calls Tryd.prog 28 #[.agg #[.int .i64 (k : Int), .int .i64 (r : Int), .slice pt nt ct], .slice x V6 z] W fun e' w' => ∃ pa ca, e' = .returned (.tuple #[.slice pa 60 ca, .nilIface]) ∧ IntO W.heap.size w' pa ca G ∧ Below W.heap.size W w' := fun W x z hW hx => by
    have h4 := step_ok (k : Int) (r : Int) pt x nt ct V6 z t Q W hnt hQl.symm (ht.next hW) hx (chkT_ok ho (by omega) hQo)
    rw [Int.toNat_natCast, Int.toNat_natCast, ← hpi] at h4
    exact h4.mono fun e1 w' ⟨pa, ca, he, ho, hb⟩ => ⟨pa, ca, by rw [he, hPl], ho, hb⟩
  have cI : ∀ (W : World) (x z : Option Addr) (f g : Nat), IntV W.heap.size W x f G → IntV W.heap.size W z g G → Calls Tryd.prog 18 #[.slice x 60 f, .slice z 60 g] W (Tells (.bool true) W) := fun W x z f g h1 h2 => by
    have := ints_any x z 60 60 f g G G W hPl.symm hPl.symm h1 h2
    rwa [sameI_self] at this
  obtain ⟨fq, hfq⟩ : ∃ x, a' - (r : Int) = x := ⟨_, rfl⟩
  obtain ⟨Vq, hVq⟩ : ∃ x, m' + 2 * r = x := ⟨_, rfl⟩
  have k1 : (imgL k r t a' L' C' R').length = n' := (imgR_length _ _ _ _ _ _ _ _ _).trans h'.hn.symm
  have k2 : (imgC k r t a' L' C' R').length = Vq := (imgR_length _ _ _ _ _ _ _ _ _).trans (by rw [← h'.hm]; exact hVq)
  have k3 : (imgT k r t a' L' C' R').length = u' := (imgR_length _ _ _ _ _ _ _ _ _).trans h'.hu.symm
  have hiq := img_ok ho hw' ha' hcc'
  obtain ⟨B, hB⟩ : ∃ B : Bool, B = true ↔ OneR a L C R a' L' C' R' := by
    by_cases ho : OneR a L C R a' L' C' R'
    · exact ⟨true, fun _ => ho, fun _ => rfl⟩
    · exact ⟨false, fun hf => (by cases hf), fun hf => absurd hf ho⟩
  have hone : B = true → OneR (a - (r : Int)) (imgL k r t a L C R) (imgC k r t a L C R) (imgT k r t a L C R) (a' - (r : Int)) (imgL k r t a' L' C' R') (imgC k r t a' L' C' R') (imgT k r t a' L' C' R') := fun hb => one_img hw.l0 hw.r0 hw'.l0 hw'.r0 (hB.1 hb)
  rw [hX1, hX2, hX3, hfr] at hone
  obtain ⟨Y1, hY1⟩ : ∃ X, imgL k r t a' L' C' R' = X := ⟨_, rfl⟩
  obtain ⟨Y2, hY2⟩ : ∃ X, imgC k r t a' L' C' R' = X := ⟨_, rfl⟩
  obtain ⟨Y3, hY3⟩ : ∃ X, imgT k r t a' L' C' R' = X := ⟨_, rfl⟩
  rw [hY1] at k1
  rw [hY2] at k2
  rw [hY3] at k3
  rw [hY1, hY2, hY3, hfq] at hiq hone
  have cB : ∀ (W : World), Below w.heap.size w W → Calls Tryd.prog 24 #[.agg #[.int .i64 (k : Int), .int .i64 (r : Int), .slice pt nt ct], .agg #[.int .i64 a', .slice p' n' c', .slice q' m' d', .slice s' u' e']] W (RowOkN W fq n' Vq u' Y1 Y2 Y3) := fun W hW => by
    have h1 := rStep_ok k r a' pt nt ct t p' q' s' n' c' m' d' u' e' L' C' R' W hnt (ht.next hW) (h'.next hW) ho hw' ha' hcc'
    rw [hY1, hY2, hY3, hfq] at h1
    exact h1.mono fun e1 w' hp => hp.lens k1 k2 k3
  have cE : ∀ (W : World), Below w.heap.size w W → Calls Tryd.prog 20 #[.int .i64 (k : Int), .agg #[.int .i64 a, .slice p n c, .slice q m d, .slice s u e], .agg #[.int .i64 a', .slice p' n' c', .slice q' m' d', .slice s' u' e']] W (Tells (.tuple #[.bool B, .nilIface]) W) := fun W hW =>
    rSame_ok k a a' p q s p' q' s' n c m d u e n' c' m' d' u' e' L C R L' C' R' W (h.next hW) (h'.next hW) hw hw' B hB
  have cF : B = true → ∀ (W : World) (p1 p2 p3 z1 z2 z3 : Option Addr) (c1 c2 c3 d1 d2 d3 : Nat), IntV W.heap.size W p1 c1 X1 → IntV W.heap.size W p2 c2 X2 → IntV W.heap.size W p3 c3 X3 → IntV W.heap.size W z1 d1 Y1 → IntV W.heap.size W z2 d2 Y2 → IntV W.heap.size W z3 d3 Y3 → Calls Tryd.prog 20 #[.int .i64 (k : Int), .agg #[.int .i64 fr, .slice p1 n c1, .slice p2 V c2, .slice p3 u c3], .agg #[.int .i64 fq, .slice z1 n' d1, .slice z2 Vq d2, .slice z3 u' d3]] W (Tells (.tuple #[.bool true, .nilIface]) W) := fun hb W p1 p2 p3 z1 z2 z3 c1 c2 c3 d1 d2 d3 h1 h2 h3 h4 h5 h6 =>
    rSame_ok k fr fq p1 p2 p3 z1 z2 z3 n c1 V c2 u c3 n' d1 Vq d2 u' d3 X1 X2 X3 Y1 Y2 Y3 W ⟨l1.symm, l2.symm, l3.symm, h1, h2, h3⟩ ⟨k1.symm, k2.symm, k3.symm, h4, h5, h6⟩ him hiq true ⟨fun _ => hone hb, fun _ => rfl⟩
  have HB := Lib.hid (And.intro cB (And.intro cE cF))
  have HC := Lib.hid (And.intro cS (And.intro cP (And.intro cQ (And.intro cT cI))))
  have HR := Lib.hid hr
  clear hr h ht hnt ho hw ha hcc h3 q1 q2 q3 hD4 hys hi hir hV6 hfr hVV l1 l2 l3 hpi him hX1 hX2 hX3 hQl hQo hPl hQ hG cS cP cQ cT cI h' hw' ha' hcc' hfq hVq k1 k2 k3 hiq hB hone hY1 hY2 hY3 cB cE cF
  go_enter Tryd.func6, Tryd.ntmps6
  go_upto_region 1 with fail
  obtain ⟨w0, hw0⟩ : ∃ w0, w0 = ((w.alloc (.cells #[.int .i64 (k : Int), .int .i64 (r : Int), .slice pt nt ct] 53)).alloc (.cells #[.int .i64 a, .slice p n c, .slice q m d, .slice s u e] 24)).alloc (.cells #[.int .i64 a', .slice p' n' c', .slice q' m' d', .slice s' u' e'] 24) := ⟨_, rfl⟩
  rw [← hw0]
  obtain ⟨hb0, hE0, hF0, hG0⟩ := three_in w _ _ _ _ _ _ _ _ _ _ _ w0 hw0
  have HE := Lib.hid (And.intro hE0 (And.intro hF0 (And.intro hG0 hb0)))
  clear hw0 hE0 hF0 hG0 hb0
  go_wp2_with fail
  refine (awakeRw w0 A (HR.out.below HE.out.2.2.2)).mono ?_
  rintro e1 w1 ⟨rfl, hb1⟩
  have H1 := Lib.hid (And.intro (HE.out.1.next hb1) (And.intro (HE.out.2.1.next hb1) (And.intro (HE.out.2.2.1.next hb1) (HE.out.2.2.2.trans (hb1.mono HE.out.2.2.2.size)))))
  clear hb1
  obtain ⟨_, hc0, hc1, hc2⟩ := H1.out.1.facts
  obtain ⟨hd0, hd1, hd2, hd3⟩ := H1.out.2.1.facts
  go_wp2_with fail
  refine (HC.out.1 w1 H1.out.2.2.2).mono ?_
  rintro e2 w2 ⟨p1, c1, p2, c2, p3, c3, s1, s2, rfl, o1, o2, o3, _, _, _, _, _, hb2⟩
  clear hc0 hc1 hc2 hd0 hd1 hd2 hd3
  go_upto_region 4 with fail
  obtain ⟨w3, hw3⟩ : ∃ x, x = w2.alloc (.cells #[.int .i64 fr, .slice p1 n c1, .slice p2 V c2, .slice p3 u c3] 24) := ⟨_, rfl⟩
  rw [← hw3]
  obtain ⟨hb3, hE3⟩ := box_row w2 _ _ _ _ w3 hw3
  obtain ⟨g9, hg9⟩ : ∃ x, w2.heap.size = x := ⟨_, rfl⟩
  rw [hg9] at hE3 ⊢
  have hb13 : Below w1.heap.size w1 w3 := hb2.trans (hb3.mono hb2.size)
  have H3 := Lib.hid (And.intro (H1.out.2.2.2.trans (hb13.mono H1.out.2.2.2.size)) (And.intro (o1.toV.next hb3) (And.intro (o2.toV.next hb3) (o3.toV.next hb3))))
  have hx : ∀ W, Below w3.heap.size w3 W → (W.cell? ⟨w.heap.size, 0, none⟩ = some (.int .i64 (k : Int)) ∧ W.cell? ⟨w.heap.size, 1, none⟩ = some (.int .i64 (r : Int)) ∧ W.cell? ⟨w.heap.size, 2, none⟩ = some (.slice pt nt ct)) ∧ (W.cell? ⟨w.heap.size + 1, 0, none⟩ = some (.int .i64 a) ∧ W.cell? ⟨w.heap.size + 1, 1, none⟩ = some (.slice p n c) ∧ W.cell? ⟨w.heap.size + 1, 2, none⟩ = some (.slice q m d) ∧ W.cell? ⟨w.heap.size + 1, 3, none⟩ = some (.slice s u e)) ∧ (W.cell? ⟨w.heap.size + 1 + 1, 0, none⟩ = some (.int .i64 a') ∧ W.cell? ⟨w.heap.size + 1 + 1, 1, none⟩ = some (.slice p' n' c') ∧ W.cell? ⟨w.heap.size + 1 + 1, 2, none⟩ = some (.slice q' m' d') ∧ W.cell? ⟨w.heap.size + 1 + 1, 3, none⟩ = some (.slice s' u' e')) ∧ (W.cell? ⟨g9, 0, none⟩ = some (.int .i64 fr) ∧ W.cell? ⟨g9, 1, none⟩ = some (.slice p1 n c1) ∧ W.cell? ⟨g9, 2, none⟩ = some (.slice p2 V c2) ∧ W.cell? ⟨g9, 3, none⟩ = some (.slice p3 u c3)) := fun W hb => ⟨((H1.out.1.next hb13).next hb).facts.2, ((H1.out.2.1.next hb13).next hb).facts, ((H1.out.2.2.1.next hb13).next hb).facts, (hE3.next hb).facts⟩
  have F3 := Lib.hid hx
  clear hb2 hw3 hb3 hE3 hg9 o1 o2 o3 hb13 hx
  obtain ⟨⟨hc0, hc1, hc2⟩, ⟨hd0, hd1, hd2, hd3⟩, ⟨he0, he1, he2, he3⟩, hf0, hf1, hf2, hf3⟩ := F3.out w3 (Below.refl _ _)
  go_wp2_with fail
  refine (HC.out.2.1 w3 p1 p2 p3 c1 c2 c3 H3.out.2.1 H3.out.2.2.1 H3.out.2.2.2).mono ?_
  rintro e4 w4 ⟨p4, c4, rfl, o4, hb4⟩
  have S4 := Lib.hid ((Si.start w3).next hb4 |>.push o4.toV)
  clear o4 hb4 hc0 hc1 hc2 hd0 hd1 hd2 hd3 he0 he1 he2 he3 hf0 hf1 hf2 hf3
  obtain ⟨⟨hc0, hc1, hc2⟩, ⟨hd0, hd1, hd2, hd3⟩, ⟨he0, he1, he2, he3⟩, hf0, hf1, hf2, hf3⟩ := F3.out w4 S4.out.below
  go_wp2_with fail
  refine (HC.out.2.2.1 w4 (H3.out.1.trans (S4.out.below.mono H3.out.1.size))).mono ?_
  rintro e5 w5 ⟨p5, c5, rfl, o5, hb5⟩
  have S5 := Lib.hid ((S4.out.next hb5).push o5.toV)
  clear o5 hb5 hc0 hc1 hc2 hd0 hd1 hd2 hd3 he0 he1 he2 he3 hf0 hf1 hf2 hf3
  obtain ⟨⟨hc0, hc1, hc2⟩, ⟨hd0, hd1, hd2, hd3⟩, ⟨he0, he1, he2, he3⟩, hf0, hf1, hf2, hf3⟩ := F3.out w5 S5.out.below
  go_wp2_with fail
  refine (HC.out.2.2.2.1 w5 p5 c5 (H3.out.1.trans (S5.out.below.mono H3.out.1.size)) (S5.out.get 0 rfl)).mono ?_
  rintro e6 w6 ⟨p6, c6, rfl, o6, hb6⟩
  have S6 := Lib.hid ((S5.out.next hb6).push o6.toV)
  clear o6 hb6 hc0 hc1 hc2 hd0 hd1 hd2 hd3 he0 he1 he2 he3 hf0 hf1 hf2 hf3
  go_wp2_with fail
  refine (HC.out.2.2.2.2 w6 p4 p6 c4 c6 (S6.out.get 2 rfl) (S6.out.get 0 rfl)).mono ?_
  rintro e7 w7 ⟨rfl, hb7⟩
  have S7 := Lib.hid (S6.out.next hb7)
  clear hb7
  obtain ⟨⟨hc0, hc1, hc2⟩, ⟨hd0, hd1, hd2, hd3⟩, ⟨he0, he1, he2, he3⟩, hf0, hf1, hf2, hf3⟩ := F3.out w7 S7.out.below
  go_wp2_with fail
  refine (HB.out.1 w7 (H3.out.1.trans (S7.out.below.mono H3.out.1.size))).mono ?_
  rintro e8 w8 ⟨z1, d1, z2, d2, z3, d3, t1, t2, rfl, o1, o2, o3, _, _, _, _, _, hb8⟩
  clear hc0 hc1 hc2 hd0 hd1 hd2 hd3 he0 he1 he2 he3 hf0 hf1 hf2 hf3
  go_upto_region 13 with fail
  obtain ⟨w9, hw9⟩ : ∃ x, x = w8.alloc (.cells #[.int .i64 fq, .slice z1 n' d1, .slice z2 Vq d2, .slice z3 u' d3] 24) := ⟨_, rfl⟩
  rw [← hw9]
  obtain ⟨hb9, hE9⟩ := box_row w8 _ _ _ _ w9 hw9
  obtain ⟨ga, hga⟩ : ∃ x, w8.heap.size = x := ⟨_, rfl⟩
  rw [hga] at hE9 ⊢
  have S9 := Lib.hid (And.intro ((S7.out.next hb8).next hb9) (And.intro hE9 (And.intro (o1.toV.next hb9) (And.intro (o2.toV.next hb9) (o3.toV.next hb9)))))
  clear hw9 hb8 hb9 hE9 hga o1 o2 o3
  obtain ⟨⟨hc0, hc1, hc2⟩, ⟨hd0, hd1, hd2, hd3⟩, ⟨he0, he1, he2, he3⟩, hf0, hf1, hf2, hf3⟩ := F3.out w9 S9.out.1.below
  go_wp2_with fail
  refine (HB.out.2.1 w9 (H3.out.1.trans (S9.out.1.below.mono H3.out.1.size))).mono ?_
  rintro e9 wa ⟨rfl, hba⟩
  have Sa := Lib.hid (And.intro (S9.out.1.next hba) (And.intro (S9.out.2.1.next hba) (And.intro (S9.out.2.2.1.next hba) (And.intro (S9.out.2.2.2.1.next hba) (S9.out.2.2.2.2.next hba)))))
  clear hba hc0 hc1 hc2 hd0 hd1 hd2 hd3 he0 he1 he2 he3 hf0 hf1 hf2 hf3
  cases B with
  | false =>
    have HZ := Lib.hid (H3.out.1.trans (Sa.out.1.below.mono H3.out.1.size))
    go_wp2_with fail
    go_ret
    exact ⟨rfl, HZ.out⟩
  | true =>
    obtain ⟨⟨hc0, hc1, hc2⟩, ⟨hd0, hd1, hd2, hd3⟩, ⟨he0, he1, he2, he3⟩, hf0, hf1, hf2, hf3⟩ := F3.out wa Sa.out.1.below
    obtain ⟨hg0, hg1, hg2, hg3⟩ := Sa.out.2.1.facts
    go_wp2_with fail
    refine (HB.out.2.2 (by trivial) wa p1 p2 p3 z1 z2 z3 c1 c2 c3 d1 d2 d3 (H3.out.2.1.next Sa.out.1.below) (H3.out.2.2.1.next Sa.out.1.below) (H3.out.2.2.2.next Sa.out.1.below) Sa.out.2.2.1 Sa.out.2.2.2.1 Sa.out.2.2.2.2).mono ?_
    rintro e9 wb ⟨rfl, hbb⟩
    have HZ := Lib.hid (H3.out.1.trans ((Sa.out.1.next hbb).below.mono H3.out.1.size))
    clear hbb hc0 hc1 hc2 hd0 hd1 hd2 hd3 he0 he1 he2 he3 hf0 hf1 hf2 hf3 hg0 hg1 hg2 hg3
    go_wp2_with fail
    go_ret
    exact ⟨rfl, HZ.out⟩
end Go.Proofs.YtfgoflaeclfggaaDoor
