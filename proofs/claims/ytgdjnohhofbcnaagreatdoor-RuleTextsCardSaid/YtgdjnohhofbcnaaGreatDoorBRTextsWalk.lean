/- RuleTexts: its walk. -/
import Derived.Test.YtgdjnohhofbcnaaGreatDoorB7
namespace Go.Proofs.YtgdjnohhofbcnaaGreatDoor
open Go.RowKit Go.Extern.Stop Go.Stop Go.Extern WordM RuleM NatM

theorem numOk_chkX {k r : Int} {t : List Int} : ∀ y, chkX k r t = some y → 1 ≤ y.2 ∧ y.2 ≤ 11 := fun y h => by
  unfold chkX at h
  obtain ⟨z, hz, rfl⟩ := Option.map_eq_some_iff.1 h
  exact numOk_chkS k r t z hz
theorem box_rule (w : World) (a b c : Value) (w0 : World) (hw0 : w0 = w.alloc (.cells #[a, b, c] 24)) : Below w.heap.size w w0 ∧ Rul3 w0 w.heap.size a b c :=
  ⟨by rw [hw0]; exact (Below.refl _ _).alloc (Nat.le_refl _) _, by rw [hw0]; exact Rul3.new w _ _ _⟩
theorem box_err (w : World) (a b c : Value) (w0 : World) (hw0 : w0 = w.alloc (.cells #[a, b, c] 32)) : Below w.heap.size w w0 ∧ Err3 w0 w.heap.size a b c :=
  ⟨by rw [hw0]; exact (Below.refl _ _).alloc (Nat.le_refl _) _, by rw [hw0]; exact ⟨heap_newN w _⟩⟩
theorem two_boxesE (w : World) (a b c x y z : Value) (w0 : World) (hw0 : w0 = (w.alloc (.cells #[a, b, c] 24)).alloc (.cells #[x, y, z] 32)) :
    Below w.heap.size w w0 ∧ Rul3 w0 w.heap.size a b c ∧ Err3 w0 (w.heap.size + 1) x y z := by
  have h1 : Below w.heap.size w (w.alloc (.cells #[a, b, c] 24)) := (Below.refl _ _).alloc (Nat.le_refl _) _
  have h2 : Below (w.alloc (.cells #[a, b, c] 24)).heap.size (w.alloc (.cells #[a, b, c] 24)) w0 := by rw [hw0]; exact (Below.refl _ _).alloc (Nat.le_refl _) _
  have hs : (w.alloc (.cells #[a, b, c] 24)).heap.size = w.heap.size + 1 := by simp
  have h3 : Err3 w0 (w.alloc (.cells #[a, b, c] 24)).heap.size x y z := by rw [hw0]; exact ⟨heap_newN _ _⟩
  rw [hs] at h3
  exact ⟨h1.trans (h2.mono h1.size), (Rul3.new w a b c).next h2, h3⟩
theorem WCh.next {w w' : World} {x : Option (List (ByteArray × Int) × Nat)} {a : Int} {po pa : Option Addr} {n co ca : Nat} (hb : Below w.heap.size w w') (h : WCh w x a po pa n co ca) : WCh w' x a po pa n co ca := by
  cases x with
  | none => exact h
  | some y => exact ⟨h.1, h.2.1, h.2.2.below hb⟩

set_option maxRecDepth 100000 in
set_option maxHeartbeats 16000000 in
theorem rtexts_any (k r : Int) (p : Option Addr) (n c : Nat) (t : List Int) (s : ByteArray) (w : World) (A : Nat → Addr) (hr : Roots w A) (hT : TypeVar w) (hn : n = t.length) (h : IntV w.heap.size w p c t) :
    Calls Tryz.prog 3 #[.agg #[.int .i64 k, .int .i64 r, .slice p n c], .string s] w (Tells (.bool true) w) := by
  have H := Lib.hid (And.intro hr (And.intro hT (And.intro hn h)))
  clear hr hT hn h
  go_enter Tryz.func3, Tryz.ntmps3
  go_upto_region 1 with fail
  obtain ⟨w0, hw0⟩ : ∃ w0, w0 = w.alloc (.cells #[.int .i64 k, .int .i64 r, .slice p n c] 24) := ⟨_, rfl⟩
  obtain ⟨hb0, hE0⟩ := box_rule w _ _ _ w0 hw0
  rw [← hw0]
  have HE := Lib.hid (And.intro hE0 hb0)
  clear hw0 hE0 hb0
  go_wp2_with fail
  refine (awakeR w0 A (H.out.1.below HE.out.2)).mono ?_
  rintro e w1 ⟨rfl, hb1⟩
  have H1 := Lib.hid (And.intro (HE.out.1.next hb1) (HE.out.2.trans (hb1.mono HE.out.2.size)))
  clear hb1
  obtain ⟨_, hc0, hc1, hc2⟩ := H1.out.1.facts
  obtain ⟨T, hTx⟩ : ∃ T, txN k r t = T := ⟨_, rfl⟩
  have hta := text_a k r p n c t w1 A (H.out.1.below H1.out.2) H.out.2.2.1 (H.out.2.2.2.next H1.out.2)
  unfold TextA at hta
  rw [hTx] at hta
  have HTA := Lib.hid hta
  have HTX := Lib.hid hTx
  clear hta hTx
  go_wp2_with fail
  refine HTA.out.mono ?_
  rintro e w2 ⟨v2, rfl, he2, hb2⟩
  have H2 := Lib.hid (And.intro (H1.out.1.next hb2) (And.intro (H1.out.2.trans (hb2.mono H1.out.2.size)) he2))
  clear hb2 he2 hc0 hc1 hc2 HTA
  obtain ⟨_, hc0, hc1, hc2⟩ := H2.out.1.facts
  have htb := text_b k r p n c t w2 H.out.2.2.1 (H.out.2.2.2.next H2.out.2.1)
  unfold TextB at htb
  rw [HTX.out] at htb
  have HTB := Lib.hid htb
  clear htb
  go_wp2_with fail
  refine HTB.out.mono ?_
  rintro e w3 ⟨a3, po3, pa3, z3, co3, ca3, rfl, he3, hb3⟩
  clear HTB hc0 hc1 hc2
  go_upto_region 5 with fail
  obtain ⟨w4, hw4⟩ : ∃ x, x = w3.alloc (.cells #[.int .i64 a3, .slice po3 z3 co3, .slice pa3 z3 ca3] 32) := ⟨_, rfl⟩
  obtain ⟨hb4, hE4⟩ := box_err w3 _ _ _ w4 hw4
  rw [← hw4]
  have h24 := hb3.trans (hb4.mono hb3.size)
  have H4 := Lib.hid (And.intro (H2.out.2.1.trans (h24.mono H2.out.2.1.size)) (And.intro (H2.out.1.next h24) (And.intro (H2.out.2.2.next h24) (And.intro (he3.next hb4) hE4))))
  clear hw4 hb4 hE4 h24 he3 hb3
  go_wp2_with fail
  refine (parse_a s w4 A (H.out.1.below H4.out.1)).mono ?_
  rintro e w5 ⟨K5, R5, t5, p5, c5, v5, hI5, rfl, ho5, he5, hb5⟩
  obtain ⟨u5, hu5⟩ : ∃ u, t5.length = u := ⟨_, rfl⟩
  rw [hu5]
  go_upto_region 6 with fail
  obtain ⟨w6, hw6⟩ : ∃ x, x = w5.alloc (.cells #[.int .i64 K5, .int .i64 R5, .slice p5 u5 c5] 24) := ⟨_, rfl⟩
  obtain ⟨hb6, hE6⟩ := box_rule w5 _ _ _ w6 hw6
  rw [← hw6]
  have h46 := hb5.trans (hb6.mono hb5.size)
  have H6 := Lib.hid (And.intro h46 (And.intro hE6 (And.intro (ho5.next hb6).toV (And.intro (he5.next hb6) hI5))))
  have HU := Lib.hid hu5
  clear hw6 hb6 hE6 h46 ho5 he5 hb5 hI5 hu5
  go_wp2_with fail
  refine (parse_b s w6).mono ?_
  rintro e w7 ⟨K6, R6, t6, p6, c6, a6, po6, pa6, z6, co6, ca6, hI6, rfl, ho6, he6, hb7⟩
  obtain ⟨rfl, rfl, rfl⟩ := hI6.unique H6.out.2.2.2.2
  rw [HU.out]
  go_upto_region 7 with fail
  obtain ⟨w9, hw9⟩ : ∃ x, x = (w7.alloc (.cells #[.int .i64 K6, .int .i64 R6, .slice p6 u5 c6] 24)).alloc (.cells #[.int .i64 a6, .slice po6 z6 co6, .slice pa6 z6 ca6] 32) := ⟨_, rfl⟩
  have hsz9 : (w7.alloc (.cells #[.int .i64 K6, .int .i64 R6, .slice p6 u5 c6] 24)).heap.size = w7.heap.size + 1 := by simp
  obtain ⟨hb9, hR9, hE9⟩ := two_boxesE w7 _ _ _ _ _ _ w9 hw9
  rw [← hw9]
  have h69 := hb7.trans (hb9.mono hb7.size)
  have h49 := H6.out.1.trans (h69.mono H6.out.1.size)
  have H9 := Lib.hid (And.intro (H4.out.1.trans (h49.mono H4.out.1.size)) (And.intro (H4.out.2.1.next h49) (And.intro (H4.out.2.2.1.next h49) (And.intro (H4.out.2.2.2.1.next h49) (H4.out.2.2.2.2.next h49)))))
  have H8 := Lib.hid (And.intro (H6.out.2.1.next h69) (And.intro (H6.out.2.2.1.next h69) (And.intro (H6.out.2.2.2.1.next h69) (And.intro (ho6.next hb9).toV (And.intro (he6.next hb9) (And.intro hR9 (And.intro hE9 hI6)))))))
  clear hw9 hb9 hR9 hE9 h69 h49 ho6 he6 hb7 hI6
  obtain ⟨_, hc0, hc1, hc2⟩ := H9.out.2.2.2.2.facts
  have his1 := is_wch (H.out.1.below H9.out.1) (H.out.2.1.below H9.out.1) numOk_chkX H9.out.2.2.1 H9.out.2.2.2.1
  have HI1 := Lib.hid his1
  clear his1
  go_wp2_with fail
  refine HI1.out.mono ?_
  rintro e y2 ⟨rfl, hy2⟩
  have G2 := Lib.hid hy2
  clear hy2 hc0 hc1 hc2 HI1
  obtain ⟨_, hc0, hc1, hc2⟩ := (H8.out.1.next G2.out).facts
  obtain ⟨_, hd0, hd1, hd2⟩ := (H8.out.2.2.2.2.2.1.next G2.out).facts
  go_wp2_with fail
  refine (rules_same K6 R6 p5 p6 u5 c5 c6 t6 y2 HU.out.symm (H8.out.2.1.next G2.out) (H8.out.2.2.2.1.next G2.out)).mono ?_
  rintro e y3 ⟨rfl, hy3⟩
  have G3 := Lib.hid (G2.out.trans (hy3.mono G2.out.size))
  clear hy3 hc0 hc1 hc2 hd0 hd1 hd2
  obtain ⟨_, hc0, hc1, hc2⟩ := (H8.out.2.2.2.2.2.2.1.next G3.out).facts
  have his1 := is_wch ((H.out.1.below H9.out.1).below G3.out) ((H.out.2.1.below H9.out.1).below G3.out) numOk_chkP (H8.out.2.2.1.next G3.out) (H8.out.2.2.2.2.1.next G3.out)
  have HI1 := Lib.hid his1
  clear his1
  go_wp2_with fail
  refine HI1.out.mono ?_
  rintro e y4 ⟨rfl, hy4⟩
  have G4 := Lib.hid (G3.out.trans (hy4.mono G3.out.size))
  clear hy4 hc0 hc1 hc2 HI1
  have hv2 := H9.out.2.2.1
  have hv5 := H8.out.2.2.1
  have hI5 := H8.out.2.2.2.2.2.2.2
  cases hS : chkS k r t with
  | some yS =>
    unfold chkX at hv2
    rw [hS] at hv2
    obtain ⟨b2, rfl, _⟩ := hv2
    clear hS
    cases hP : chkP s with
    | some yP =>
      rw [hP] at hv5
      obtain ⟨b5, rfl, _⟩ := hv5
      clear hI5
      go_wp2_with fail
      go_ret
      exact ⟨rfl, (H9.out.1.trans (G4.out.mono H9.out.1.size))⟩
    | none =>
      rw [hP] at hv5
      obtain rfl : v5 = .nilIface := hv5
      obtain ⟨hK5, hR5, ho5R, hcd5⟩ : K6 = (symK s : Int) ∧ R6 = (symR s : Int) ∧ OkR (symK s) (symR s) t6 ∧ codeR (symK s) t6 = numOf (bsOf (restS s)) := by
        unfold ParseIs at hI5
        rw [hP] at hI5
        exact hI5
      have hl5 : t6.length ≤ 256 := by
        rw [ho5R.len]
        have hP' := hP
        unfold chkP at hP'
        split at hP'
        · cases hP'
        · split at hP'
          · cases hP'
          · split at hP'
            · cases hP'
            · omega
      subst hK5 hR5
      have hS5 := chkS_ok ho5R hl5
      have htx : txN (symK s : Int) (symR s : Int) t6 = s := by
        unfold txN
        rw [hS5]
        show ruleText (symK s : Int).toNat (symR s : Int).toNat (codeR (symK s : Int).toNat t6) = s
        rw [Int.toNat_natCast, Int.toNat_natCast, hcd5]
        exact text_again hP
      have hta := text_a (symK s : Int) (symR s : Int) p5 u5 c5 t6 y4 A ((H.out.1.below H9.out.1).below G4.out) HU.out.symm (H8.out.2.1.next G4.out)
      unfold TextA at hta
      rw [htx, show chkX (symK s : Int) (symR s : Int) t6 = none by unfold chkX; rw [hS5]; rfl] at hta
      have HTA := Lib.hid hta
      obtain ⟨_, hc0, hc1, hc2⟩ := (H8.out.1.next G4.out).facts
      clear hta htx hS5 hl5 hcd5 ho5R hI5 hP
      go_wp2_with fail
      refine HTA.out.mono ?_
      rintro e y1 ⟨v9, rfl, hv9, hy9⟩
      obtain rfl : v9 = .nilIface := hv9
      have HZ := Lib.hid (H9.out.1.trans ((G4.out.trans (hy9.mono G4.out.size)).mono H9.out.1.size))
      clear hy9 hc0 hc1 hc2
      go_wp2_with fail
      go_ret
      exact ⟨rfl, HZ.out⟩
  | none =>
    unfold chkX at hv2
    rw [hS] at hv2
    obtain rfl : v2 = .nilIface := hv2
    obtain ⟨K, R, rfl, rfl, hoS, hsS⟩ := chkS_none hS
    have hT2 : T = ruleText K R (codeR K t) := by
      rw [← HTX.out]
      unfold txN
      rw [hS]
      rfl
    have hpa := parse_a T y4 A ((H.out.1.below H9.out.1).below G4.out)
    have hpT : chkP T = none := by rw [hT2]; exact rule_chkP hoS hsS
    have hback : ∀ K' R' t', ParseIs T K' R' t' → K' = K ∧ R' = R ∧ t' = t := fun K' R' t' hp => by
      rw [hT2] at hp
      exact ParseIs.back hoS hsS hp
    unfold ParseA at hpa
    rw [hpT] at hpa
    have HPA := Lib.hid (And.intro hpa hback)
    clear hpa hpT hback hT2 hS hoS hsS
    go_wp2_with fail
    refine HPA.out.1.mono ?_
    rintro e x1 ⟨K7, R7, t7, p7, c7, v7, hI7, rfl, ho7, hv7, hx1⟩
    obtain rfl : v7 = .nilIface := hv7
    obtain ⟨rfl, rfl, rfl⟩ := HPA.out.2 _ _ _ hI7
    rw [← H.out.2.2.1]
    clear hI7
    go_upto_region 11 with fail
    obtain ⟨x2, hx2⟩ : ∃ x, x = x1.alloc (.cells #[.int .i64 (K : Int), .int .i64 (R : Int), .slice p7 n c7] 24) := ⟨_, rfl⟩
    obtain ⟨hb7, hE7⟩ := box_rule x1 _ _ _ x2 hx2
    rw [← hx2]
    have h47 := hx1.trans (hb7.mono hx1.size)
    have G5 := Lib.hid (G4.out.trans (h47.mono G4.out.size))
    have HO7 := Lib.hid (ho7.next hb7).toV
    clear hx2 hb7 h47 ho7 hx1
    obtain ⟨_, hc0, hc1, hc2⟩ := hE7.facts
    obtain ⟨_, hd0, hd1, hd2⟩ := (H9.out.2.1.next G5.out).facts
    clear hE7
    go_wp2_with fail
    refine (rules_same (K : Int) (R : Int) p7 p n c7 c _ x2 H.out.2.2.1 HO7.out ((H.out.2.2.2.next H9.out.1).next G5.out)).mono ?_
    rintro e x3 ⟨rfl, hx3⟩
    have G6 := Lib.hid (G5.out.trans (hx3.mono G5.out.size))
    clear hx3 hc0 hc1 hc2 hd0 hd1 hd2
    cases hP : chkP s with
    | some yP =>
      rw [hP] at hv5
      obtain ⟨b5, rfl, _⟩ := hv5
      clear hI5
      go_wp2_with fail
      go_ret
      exact ⟨rfl, (H9.out.1.trans (G6.out.mono H9.out.1.size))⟩
    | none =>
      rw [hP] at hv5
      obtain rfl : v5 = .nilIface := hv5
      obtain ⟨hK5, hR5, ho5R, hcd5⟩ : K6 = (symK s : Int) ∧ R6 = (symR s : Int) ∧ OkR (symK s) (symR s) t6 ∧ codeR (symK s) t6 = numOf (bsOf (restS s)) := by
        unfold ParseIs at hI5
        rw [hP] at hI5
        exact hI5
      have hl5 : t6.length ≤ 256 := by
        rw [ho5R.len]
        have hP' := hP
        unfold chkP at hP'
        split at hP'
        · cases hP'
        · split at hP'
          · cases hP'
          · split at hP'
            · cases hP'
            · omega
      subst hK5 hR5
      have hS5 := chkS_ok ho5R hl5
      have htx : txN (symK s : Int) (symR s : Int) t6 = s := by
        unfold txN
        rw [hS5]
        show ruleText (symK s : Int).toNat (symR s : Int).toNat (codeR (symK s : Int).toNat t6) = s
        rw [Int.toNat_natCast, Int.toNat_natCast, hcd5]
        exact text_again hP
      have hta := text_a (symK s : Int) (symR s : Int) p5 u5 c5 t6 x3 A ((H.out.1.below H9.out.1).below G6.out) HU.out.symm (H8.out.2.1.next G6.out)
      unfold TextA at hta
      rw [htx, show chkX (symK s : Int) (symR s : Int) t6 = none by unfold chkX; rw [hS5]; rfl] at hta
      have HTA := Lib.hid hta
      obtain ⟨_, hc0, hc1, hc2⟩ := (H8.out.1.next G6.out).facts
      clear hta htx hS5 hl5 hcd5 ho5R hI5 hP
      go_wp2_with fail
      refine HTA.out.mono ?_
      rintro e y1 ⟨v9, rfl, hv9, hy9⟩
      obtain rfl : v9 = .nilIface := hv9
      have HZ := Lib.hid (H9.out.1.trans ((G6.out.trans (hy9.mono G6.out.size)).mono H9.out.1.size))
      clear hy9 hc0 hc1 hc2
      go_wp2_with fail
      go_ret
      exact ⟨rfl, HZ.out⟩
end Go.Proofs.YtgdjnohhofbcnaaGreatDoor
