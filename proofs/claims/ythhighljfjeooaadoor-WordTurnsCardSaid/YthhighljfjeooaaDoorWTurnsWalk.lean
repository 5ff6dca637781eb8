/- WordTurns: its walk: whatever the list and the two numbers, it answers true and old memory stays. -/
import Derived.Test.YthhighljfjeooaaDoorLawWord
import Derived.Test.YthhighljfjeooaaDoorWordL
import Derived.Test.YthhighljfjeooaaDoorRefWC
namespace Go.Proofs.YthhighljfjeooaaDoor
open Go.RowKit Go.Extern.Stop Go.Stop Go.Extern WordM

theorem turnW_add (l : List Int) (a b : Int) : turnW (turnW l a) b = turnW l (a + b) := by
  unfold turnW
  rw [rot_rot]
  unfold turnN
  rw [rot_length]
  rcases Nat.eq_zero_or_pos l.length with h | h
  · have := List.eq_nil_of_length_eq_zero h
    subst this; rfl
  · have h1 := Int.emod_nonneg a (show (l.length : Int) ≠ 0 by omega)
    have h2 := Int.emod_nonneg b (show (l.length : Int) ≠ 0 by omega)
    have h3 := Int.emod_nonneg (a + b) (show (l.length : Int) ≠ 0 by omega)
    rw [← rot_mod]
    congr 1
    have e : ((a % (l.length : Int)).toNat + (b % (l.length : Int)).toNat : Nat) % l.length = (((a % (l.length : Int) + b % (l.length : Int)) % (l.length : Int))).toNat := by
      have : ((((a % (l.length : Int)).toNat + (b % (l.length : Int)).toNat : Nat) % l.length : Nat) : Int) = (a % (l.length : Int) + b % (l.length : Int)) % (l.length : Int) := by
        rw [Int.natCast_emod, Int.natCast_add, Int.toNat_of_nonneg h1, Int.toNat_of_nonneg h2]
      omega
    rw [e, ← Int.add_emod]
theorem turnW_len (l : List Int) : turnW l (l.length : Int) = l := by rw [turnW_nat', rot_len]
theorem perW_is {l : List Int} (h : 0 < l.length) : IsPer l (perW l) := by
  unfold perW
  have hex : ∃ p, IsPer l p := by
    have : ∀ k, (∃ q, 1 ≤ q ∧ q ≤ k ∧ q ∣ l.length ∧ Per l q) → ∃ p, IsPer l p := by
      intro k
      induction k with
      | zero => rintro ⟨q, h1, h2, _⟩; omega
      | succ k ih =>
        rintro ⟨q, h1, h2, h3, h4⟩
        by_cases hk : ∃ q, 1 ≤ q ∧ q ≤ k ∧ q ∣ l.length ∧ Per l q
        · exact ih hk
        · have hq : q = k + 1 := by
            rcases (by omega : q ≤ k ∨ q = k + 1) with h5 | h5
            · exact absurd ⟨q, h1, h5, h3, h4⟩ hk
            · exact h5
          exact ⟨q, h1, h3, h4, fun r r1 r2 r3 => hk ⟨r, r1, by omega, r3.1, r3.2⟩⟩
    exact this l.length ⟨l.length, h, Nat.le_refl _, Nat.dvd_refl _, per_len l⟩
  have hx : l.length ≠ 0 ∧ ∃ p, IsPer l p := ⟨by omega, hex⟩
  rw [dif_pos hx]
  exact hx.2.choose_spec
/-- new ints of a length that is named -/
def IntN (w : World) (n : Nat) (l : List Int) (e : Ending) (w' : World) : Prop :=
  ∃ p c, e = .returned (.slice p n c) ∧ IntO w.heap.size w' p c l ∧ Below w.heap.size w w'
theorem turn_n (q : Option Addr) (n d : Nat) (a b : List Int) (z : Int) (W : World) (hn : a.length = n) (hb : turnW a z = b) (h : IntV W.heap.size W q d a) (hl : n ≤ 300) :
    Calls Tryd.prog 30 #[.slice q n d, .int .i64 z] W (IntN W n b) := by
  refine (turn_any q n d a z W hn.symm h (by omega)).mono fun e w' ⟨p, c, he, ho, hB⟩ => ?_
  rw [turnW_length, hn] at he
  rw [hb] at ho
  exact ⟨p, c, he, ho, hB⟩
theorem back_n (q : Option Addr) (n d : Nat) (a : List Int) (W : World) (hn : a.length = n) (h : IntV W.heap.size W q d a) (hl : n ≤ 300) :
    Calls Tryd.prog 29 #[.slice q n d] W (IntN W n a.reverse) := by
  refine (back_any q n d a W hn.symm h (by omega)).mono fun e w' ⟨p, c, he, ho, hB⟩ => ?_
  rw [List.length_reverse, hn] at he
  exact ⟨p, c, he, ho, hB⟩
theorem same_n (q q' : Option Addr) (n d d' : Nat) (a : List Int) (W : World) (hn : a.length = n) (h : IntV W.heap.size W q d a) (h' : IntV W.heap.size W q' d' a) :
    Calls Tryd.prog 28 #[.slice q n d, .slice q' n d'] W (Tells (.bool true) W) := by
  have := ints_any q q' n n d d' a a W hn.symm hn.symm h h'
  rwa [sameI_self] at this
set_option maxRecDepth 100000 in
set_option maxHeartbeats 16000000 in
theorem wturns_any (p : Option Addr) (c : Nat) (l : List Int) (a b : Int) (w : World) (ha : IntV w.heap.size w p c l) :
    Calls Tryd.prog 4 #[.slice p l.length c, .int .i64 a, .int .i64 b] w (Tells (.bool true) w) := by
  have hcap := ha.cap
  have hle := ha.le
  unfold maxLen at hcap
  obtain ⟨n, hn⟩ : ∃ n, l.length = n := ⟨_, rfl⟩
  rw [hn] at hle ⊢
  have S0 := Lib.hid (And.intro ((Si.start w).push ha) hn)
  clear ha hn
  go_enter Tryd.func4, Tryd.ntmps4
  go_wp2_with fail
  refine (awakeW _).mono ?_
  rintro e w1 ⟨rfl, hb1⟩
  have S1 := Lib.hid (S0.out.1.next hb1)
  clear hb1
  by_cases h300 : 300 < n
  · go_wp2_with fail
    go_ret
    exact ⟨rfl, S1.out.below⟩
  have hn3 : n ≤ 300 := by omega
  have hn4 : l.length ≤ 1000000 := by have := S0.out.2; omega
  have HN4 := Lib.hid hn4
  obtain ⟨L, hL⟩ : ∃ L, leastW l = L := ⟨_, rfl⟩
  obtain ⟨P, hP⟩ : ∃ P, perW l = P := ⟨_, rfl⟩
  have k1 := Quiet.tells (least_any p n c l w1 S0.out.2.symm (S1.out.get 0 rfl) hn4)
  have k2 := fun W hW => Quiet.tells (period_any p n c l W S0.out.2.symm hW (by omega))
  have k3 := fun W hW => least_ref p n c l W S0.out.2.symm hW hn4
  have k4 := fun W hW => period_ref p n c l W S0.out.2.symm hW hn4
  rw [hL] at k1
  simp only [hP] at k2 k4
  simp only [hL] at k3
  have K := Lib.hid (And.intro k1 (And.intro k2 (And.intro k3 (And.intro k4 (And.intro hL hP)))))
  clear k1 k2 k3 k4 hL hP h300 hn4
  go_wp2_with fail
  refine K.out.1.mono ?_
  rintro e w2 ⟨rfl, hb2⟩
  have S2 := Lib.hid (S1.out.next hb2)
  clear hb2
  go_wp2_with fail
  refine (K.out.2.1 _ (S2.out.get 0 rfl)).mono ?_
  rintro e w3 ⟨rfl, hb3⟩
  have S3 := Lib.hid (S2.out.next hb3)
  clear hb3
  go_wp2_with fail
  refine (K.out.2.2.1 _ (S3.out.get 0 rfl)).mono ?_
  rintro e w4 ⟨rfl, hb4⟩
  have S4 := Lib.hid (S3.out.next hb4)
  clear hb4
  have hLL : ((L : Int) != (L : Int)) = false := by simp
  have hPP : ((P : Int) != (P : Int)) = false := by simp
  go_wp2_with fail
  refine (K.out.2.2.2.1 _ (S4.out.get 0 rfl)).mono ?_
  rintro e w5 ⟨rfl, hb5⟩
  have S5 := Lib.hid (S4.out.next hb5)
  clear hb5
  go_wp2_with fail
  refine (back_n p n c l w5 S0.out.2 (S5.out.get 0 rfl) hn3).mono ?_
  rintro e w6 ⟨p6, c6, rfl, ho6, hb6⟩
  have S6 := Lib.hid ((S5.out.next hb6).push ho6.toV)
  clear hb6 ho6
  go_wp2_with fail
  refine (back_n p6 n c6 l.reverse w6 (by rw [List.length_reverse, S0.out.2]) (S6.out.get 0 rfl) hn3).mono ?_
  rintro e w7 ⟨p7, c7, rfl, ho7, hb7⟩
  rw [List.reverse_reverse] at ho7
  have S7 := Lib.hid ((S6.out.next hb7).push ho7.toV)
  clear hb7 ho7
  go_wp2_with fail
  refine (same_n p7 p n c7 c l w7 S0.out.2 (S7.out.get 0 rfl) (S7.out.get 2 rfl)).mono ?_
  rintro e w8 ⟨rfl, hb8⟩
  have S8 := Lib.hid (S7.out.next hb8)
  clear hb8
  rcases Nat.eq_zero_or_pos n with h0 | h0
  · subst h0
    have hl0 : l = [] := List.eq_nil_of_length_eq_zero S0.out.2
    have hL0 : L = 0 := by rw [← K.out.2.2.2.2.1, hl0, leastW_nil]
    have hP0 : P = 0 := by rw [← K.out.2.2.2.2.2, hl0, perW_nil]
    subst hL0 hP0
    clear hLL hPP
    go_wp2_with fail
    refine (turn_n p 0 c l (turnW l b) b w8 S0.out.2 rfl (S8.out.get 2 rfl) (by omega)).mono ?_
    rintro e w9 ⟨p9, c9, rfl, ho9, hb9⟩
    have S9 := Lib.hid (S8.out.next hb9).below
    clear hb9 ho9
    go_wp2_with fail
    go_ret
    exact ⟨rfl, S9.out⟩
  · have hn0 : ((n : Int) == 0) = false := by rw [beq_eq_false_iff_ne]; omega
    have hpos : 0 < l.length := by rw [S0.out.2]; exact h0
    have hIL := leastW_is hpos
    have hIP := perW_is hpos
    rw [K.out.2.2.2.2.1] at hIL
    rw [K.out.2.2.2.2.2] at hIP
    obtain ⟨O, hO⟩ : ∃ O, turnW l b = O := ⟨_, rfl⟩
    have hOl : O.length = n := by rw [← hO, turnW_length, S0.out.2]
    have hOr : O = rot l (turnN l b) := by rw [← hO]; rfl
    have hIO := leastW_is (l := O) (by omega)
    obtain ⟨L2, hL2⟩ : ∃ L2, leastW O = L2 := ⟨_, rfl⟩
    rw [hL2, hOr] at hIO
    have hrot := least_rot hIL hIO
    rw [← hOr] at hrot
    have hPO : perW O = P := perW_eq (by omega) (by rw [hOr]; exact isPer_rot hIP _)
    obtain ⟨v, hv⟩ : ∃ v, cmpW (rot l L) O = v := ⟨_, rfl⟩
    have hv0 : v ≤ 0 := by
      rw [← hv, cmpW_len (by rw [rot_length, hOl, S0.out.2]), hOr, ← rot_mod l (turnN l b)]
      exact (hIL.2 _ (Nat.mod_lt _ hpos)).1
    have hmod : (n : Int) % (P : Int) = 0 := by
      have : n % P = 0 := Nat.mod_eq_zero_of_dvd (by rw [← S0.out.2]; exact hIP.2.1)
      omega
    have hmod2 : (n : Int).tmod (P : Int) = 0 := by rw [Int.tmod_eq_emod_of_nonneg (by omega), hmod]
    have hP1 : 1 ≤ P := hIP.1
    have hPn : P ≤ n := by have := Nat.le_of_dvd hpos hIP.2.1; have := S0.out.2; omega
    have hdv : decide (0 < v) = false := by rw [decide_eq_false_iff_not]; omega
    obtain ⟨a', ha'⟩ : ∃ a', a.tmod 1048576 = a' := ⟨_, rfl⟩
    obtain ⟨b', hb'⟩ : ∃ b', b.tmod 1048576 = b' := ⟨_, rfl⟩
    have ba : -1048576 < a' ∧ a' < 1048576 := ⟨by rw [← ha']; exact Int.lt_tmod_of_pos a (by omega), by rw [← ha']; exact Int.tmod_lt_of_pos a (by omega)⟩
    have bb : -1048576 < b' ∧ b' < 1048576 := ⟨by rw [← hb']; exact Int.lt_tmod_of_pos b (by omega), by rw [← hb']; exact Int.tmod_lt_of_pos b (by omega)⟩
    obtain ⟨ba1, ba2⟩ := ba
    obtain ⟨bb1, bb2⟩ := bb
    have hper : rot l P = l := per_rot hIP.2.2.1
    have M := Lib.hid (And.intro hO (And.intro hOl (And.intro hL2 (And.intro hrot (And.intro hPO (And.intro hv hper))))))
    clear hIL hIP hO hOl hOr hIO hL2 hrot hPO hv hpos hper
    go_wp2_with fail
    refine (turn_n p n c l (rot l L) (L : Int) w8 S0.out.2 (turnW_nat' l L) (S8.out.get 2 rfl) hn3).mono ?_
    rintro e w9 ⟨p9, c9, rfl, ho9, hb9⟩
    have S9 := Lib.hid ((S8.out.next hb9).push ho9.toV)
    clear hb9 ho9
    go_wp2_with fail
    refine (turn_n p n c l O b w9 S0.out.2 M.out.1 (S9.out.get 3 rfl) hn3).mono ?_
    rintro e w10 ⟨p10, c10, rfl, ho10, hb10⟩
    have S10 := Lib.hid ((S9.out.next hb10).push ho10.toV)
    clear hb10 ho10
    go_wp2_with fail
    have kc := cmp_w p9 p10 n n c9 c10 (rot l L) O w10 (by rw [rot_length, S0.out.2]) M.out.2.1.symm (S10.out.get 1 rfl) (S10.out.get 0 rfl)
    rw [M.out.2.2.2.2.2.1] at kc
    refine kc.mono ?_
    clear kc
    rintro e w' ⟨rfl, rfl⟩
    have kl := Quiet.tells (least_any p10 n c10 O w10 M.out.2.1.symm (S10.out.get 0 rfl) (by have := M.out.2.1; omega))
    rw [M.out.2.2.1] at kl
    have KL := Lib.hid kl
    clear kl
    go_wp2_with fail
    refine KL.out.mono ?_
    rintro e w11 ⟨rfl, hb11⟩
    have S11 := Lib.hid (S10.out.next hb11)
    clear hb11 KL
    go_wp2_with fail
    refine (turn_n p10 n c10 O (rot l L) (L2 : Int) w11 M.out.2.1 (by rw [turnW_nat', M.out.2.2.2.1]) (S11.out.get 0 rfl) hn3).mono ?_
    rintro e w12 ⟨p12, c12, rfl, ho12, hb12⟩
    have S12 := Lib.hid ((S11.out.next hb12).push ho12.toV)
    clear hb12 ho12
    go_wp2_with fail
    refine (same_n p12 p9 n c12 c9 (rot l L) w12 (by rw [rot_length, S0.out.2]) (S12.out.get 0 rfl) (S12.out.get 2 rfl)).mono ?_
    rintro e w13 ⟨rfl, hb13⟩
    have S13 := Lib.hid (S12.out.next hb13)
    clear hb13
    have kp := Quiet.tells (period_any p10 n c10 O w13 M.out.2.1.symm (S13.out.get 1 rfl) (by have := M.out.2.1; omega))
    rw [M.out.2.2.2.2.1] at kp
    have KP := Lib.hid kp
    clear kp
    go_wp2_with fail
    refine KP.out.mono ?_
    rintro e w14 ⟨rfl, hb14⟩
    have S14 := Lib.hid (S13.out.next hb14)
    clear hb14 KP
    go_wp2_with fail
    refine (turn_n p n c l (turnW l a') a' w14 S0.out.2 rfl (S14.out.get 5 rfl) hn3).mono ?_
    rintro e w15 ⟨p15, c15, rfl, ho15, hb15⟩
    have S15 := Lib.hid ((S14.out.next hb15).push ho15.toV)
    clear hb15 ho15
    go_wp2_with fail
    refine (turn_n p15 n c15 (turnW l a') (turnW l (a' + b')) b' w15 (by rw [turnW_length, S0.out.2]) (turnW_add l a' b') (S15.out.get 0 rfl) hn3).mono ?_
    rintro e w16 ⟨p16, c16, rfl, ho16, hb16⟩
    have S16 := Lib.hid ((S15.out.next hb16).push ho16.toV)
    clear hb16 ho16
    go_wp2_with fail
    refine (turn_n p n c l (turnW l (a' + b')) (a' + b') w16 S0.out.2 rfl (S16.out.get 7 rfl) hn3).mono ?_
    rintro e w17 ⟨p17, c17, rfl, ho17, hb17⟩
    have S17 := Lib.hid ((S16.out.next hb17).push ho17.toV)
    clear hb17 ho17
    go_wp2_with fail
    refine (same_n p16 p17 n c16 c17 (turnW l (a' + b')) w17 (by rw [turnW_length, S0.out.2]) (S17.out.get 1 rfl) (S17.out.get 0 rfl)).mono ?_
    rintro e w18 ⟨rfl, hb18⟩
    have S18 := Lib.hid (S17.out.next hb18)
    clear hb18
    go_wp2_with fail
    refine (turn_n p n c l l (P : Int) w18 S0.out.2 (by rw [turnW_nat', M.out.2.2.2.2.2.2]) (S18.out.get 8 rfl) hn3).mono ?_
    rintro e w19 ⟨p19, c19, rfl, ho19, hb19⟩
    have S19 := Lib.hid ((S18.out.next hb19).push ho19.toV)
    clear hb19 ho19
    go_wp2_with fail
    refine (same_n p19 p n c19 c l w19 S0.out.2 (S19.out.get 0 rfl) (S19.out.get 9 rfl)).mono ?_
    rintro e w20 ⟨rfl, hb20⟩
    have S20 := Lib.hid (S19.out.next hb20)
    clear hb20
    go_wp2_with fail
    refine (turn_n p n c l l (n : Int) w20 S0.out.2 (by rw [← S0.out.2, turnW_len]) (S20.out.get 9 rfl) hn3).mono ?_
    rintro e w21 ⟨p21, c21, rfl, ho21, hb21⟩
    have S21 := Lib.hid ((S20.out.next hb21).push ho21.toV)
    clear hb21 ho21
    go_wp2_with fail
    refine (same_n p21 p n c21 c l w21 S0.out.2 (S21.out.get 0 rfl) (S21.out.get 10 rfl)).mono ?_
    rintro e w22 ⟨rfl, hb22⟩
    have S22 := Lib.hid (S21.out.next hb22).below
    clear hb22
    go_wp2_with fail
    go_ret
    exact ⟨rfl, S22.out⟩
end Go.Proofs.YthhighljfjeooaaDoor
