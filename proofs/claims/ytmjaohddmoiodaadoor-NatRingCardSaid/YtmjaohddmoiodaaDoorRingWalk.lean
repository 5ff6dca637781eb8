/- NatRing: its walk: whatever the three numbers, it answers true and old memory stays. -/
import Derived.Test.YtmjaohddmoiodaaDoorNatI
namespace Go.Proofs.YtmjaohddmoiodaaDoor
open Go.RowKit NatM

set_option maxRecDepth 100000 in
set_option maxHeartbeats 8000000 in
theorem ring_any (p q r : Option Addr) (cp cq cr : Nat) (a b c : List Nat) (w : World) (ha : NatV w.heap.size w p cp a) (hb : NatV w.heap.size w q cq b) (hc : NatV w.heap.size w r cr c) :
    Calls Tryd.prog 4 #[.slice p a.length cp, .slice q b.length cq, .slice r c.length cr] w (Tells (.bool true) w) := by
  have hS : St w w [((p, cp, a), a.length), ((q, cq, b), b.length), ((r, cr, c), c.length), ((none, 0, []), 0)] := ⟨fun x hx => by
    simp only [List.mem_cons, List.not_mem_nil, or_false] at hx
    rcases hx with rfl | rfl | rfl | rfl
    · exact ⟨ha, Nat.le_refl _⟩
    · exact ⟨hb, Nat.le_refl _⟩
    · exact ⟨hc, Nat.le_refl _⟩
    · exact ⟨NatV.nothing w, Nat.le_refl _⟩, Below.refl _ _⟩
  have S0 := Lib.hid hS
  clear hS ha hb hc
  go_enter Tryd.func4, Tryd.ntmps4
  go_wp2_with fail
  refine (S0.out.tells (awake_any _)).mono ?_
  rintro e w1 ⟨rfl, hS⟩
  have S1 := Lib.hid hS
  clear hS S0
  obtain ⟨lb, hlb⟩ : ∃ lb, longB [(p, cp, a), (q, cq, b), (r, cr, c)] = lb := ⟨_, rfl⟩
  have HLB := Lib.hid hlb
  clear hlb
  go_wp2_with fail
  refine (S1.out.long [(p, cp, a), (q, cq, b), (r, cr, c)] _ _ rfl (by simp) (fun x hx => by
    simp only [List.mem_cons, List.not_mem_nil, or_false] at hx
    rcases hx with rfl | rfl | rfl
    · exact ⟨a.length, by simp⟩
    · exact ⟨b.length, by simp⟩
    · exact ⟨c.length, by simp⟩) rfl rfl).mono ?_
  rintro e w2 ⟨rfl, hS⟩
  rw [HLB.out]
  cases lb with
  | true =>
    have S2 := Lib.hid hS.below
    clear hS S1
    go_wp2_with fail
    go_ret
    exact ⟨rfl, S2.out⟩
  | false =>
    have hlen : a.length ≤ 400 ∧ b.length ≤ 400 ∧ c.length ≤ 400 := by
      have h := HLB.out
      simp [longB] at h
      exact h
    have S2 := Lib.hid (hS.bound (L' := [((p, cp, a), 400), ((q, cq, b), 400), ((r, cr, c), 400), ((none, 0, []), 0)]) (fun x hx => by
      simp only [List.mem_cons, List.not_mem_nil, or_false] at hx
      rcases hx with rfl | rfl | rfl | rfl
      · exact ⟨⟨a.length, by simp⟩, hlen.1⟩
      · exact ⟨⟨b.length, by simp⟩, hlen.2.1⟩
      · exact ⟨⟨c.length, by simp⟩, hlen.2.2⟩
      · exact ⟨⟨0, by simp⟩, Nat.zero_le _⟩))
    clear hS S1 hlen HLB
    go_wp2_with fail
    refine (S2.out.add 0 1 (V32 a + V32 b) rfl rfl (by decide) (by decide) (by first | rfl | (rw [V32_D32, V32_D32]) | (rw [V32_D32]) | (simp [V32, valB])) rfl rfl).mono ?_
    rintro e w3 ⟨p3, c3, rfl, hS⟩
    have S3 := Lib.hid hS
    clear hS S2
    go_wp2_with fail
    refine (S3.out.mul 1 2 (V32 a * V32 b) rfl rfl (by decide) (by decide) (by first | rfl | (rw [V32_D32, V32_D32]) | (rw [V32_D32]) | (simp [V32, valB])) rfl rfl).mono ?_
    rintro e w4 ⟨p4, c4, rfl, hS⟩
    have S4 := Lib.hid hS
    clear hS S3
    go_wp2_with fail
    refine (S4.out.normal 1 rfl rfl).mono ?_
    rintro e w5 ⟨rfl, hS⟩
    have S5 := Lib.hid hS
    clear hS S4
    go_wp2_with fail
    refine (S5.out.normal 0 rfl rfl).mono ?_
    rintro e w6 ⟨rfl, hS⟩
    have S6 := Lib.hid hS
    clear hS S5
    go_wp2_with fail
    refine (S6.out.add 3 2 (V32 b + V32 a) rfl rfl (by decide) (by decide) (by first | rfl | (rw [V32_D32, V32_D32]) | (rw [V32_D32]) | (simp [V32, valB])) rfl rfl).mono ?_
    rintro e w7 ⟨p7, c7, rfl, hS⟩
    have S7 := Lib.hid hS
    clear hS S6
    go_wp2_with fail
    refine (S7.out.nats 2 0 rfl rfl (by rw [Nat.add_comm]) rfl rfl).mono ?_
    rintro e w8 ⟨rfl, hS⟩
    have S8 := Lib.hid hS
    clear hS S7
    go_wp2_with fail
    refine (S8.out.mul 4 3 (V32 b * V32 a) rfl rfl (by decide) (by decide) (by first | rfl | (rw [V32_D32, V32_D32]) | (rw [V32_D32]) | (simp [V32, valB])) rfl rfl).mono ?_
    rintro e w9 ⟨p9, c9, rfl, hS⟩
    have S9 := Lib.hid hS
    clear hS S8
    go_wp2_with fail
    refine (S9.out.nats 2 0 rfl rfl (by rw [Nat.mul_comm]) rfl rfl).mono ?_
    rintro e w10 ⟨rfl, hS⟩
    have S10 := Lib.hid hS
    clear hS S9
    go_wp2_with fail
    refine (S10.out.add 3 6 (V32 a + V32 b + V32 c) rfl rfl (by decide) (by decide) (by first | rfl | (rw [V32_D32, V32_D32]) | (rw [V32_D32]) | (simp [V32, valB])) rfl rfl).mono ?_
    rintro e w11 ⟨p11, c11, rfl, hS⟩
    have S11 := Lib.hid hS
    clear hS S10
    go_wp2_with fail
    refine (S11.out.add 6 7 (V32 b + V32 c) rfl rfl (by decide) (by decide) (by first | rfl | (rw [V32_D32, V32_D32]) | (rw [V32_D32]) | (simp [V32, valB])) rfl rfl).mono ?_
    rintro e w12 ⟨p12, c12, rfl, hS⟩
    have S12 := Lib.hid hS
    clear hS S11
    go_wp2_with fail
    refine (S12.out.add 6 0 (V32 a + (V32 b + V32 c)) rfl rfl (by decide) (by decide) (by first | rfl | (rw [V32_D32, V32_D32]) | (rw [V32_D32]) | (simp [V32, valB])) rfl rfl).mono ?_
    rintro e w13 ⟨p13, c13, rfl, hS⟩
    have S13 := Lib.hid hS
    clear hS S12
    go_wp2_with fail
    refine (S13.out.nats 2 0 rfl rfl (by rw [Nat.add_assoc]) rfl rfl).mono ?_
    rintro e w14 ⟨rfl, hS⟩
    have S14 := Lib.hid hS
    clear hS S13
    go_wp2_with fail
    refine (S14.out.mul 6 9 ((V32 a + V32 b) * V32 c) rfl rfl (by decide) (by decide) (by first | rfl | (rw [V32_D32, V32_D32]) | (rw [V32_D32]) | (simp [V32, valB])) rfl rfl).mono ?_
    rintro e w15 ⟨p15, c15, rfl, hS⟩
    have S15 := Lib.hid hS
    clear hS S14
    go_wp2_with fail
    refine (S15.out.mul 8 10 (V32 a * V32 c) rfl rfl (by decide) (by decide) (by first | rfl | (rw [V32_D32, V32_D32]) | (rw [V32_D32]) | (simp [V32, valB])) rfl rfl).mono ?_
    rintro e w16 ⟨p16, c16, rfl, hS⟩
    have S16 := Lib.hid hS
    clear hS S15
    go_wp2_with fail
    refine (S16.out.mul 10 11 (V32 b * V32 c) rfl rfl (by decide) (by decide) (by first | rfl | (rw [V32_D32, V32_D32]) | (rw [V32_D32]) | (simp [V32, valB])) rfl rfl).mono ?_
    rintro e w17 ⟨p17, c17, rfl, hS⟩
    have S17 := Lib.hid hS
    clear hS S16
    go_wp2_with fail
    refine (S17.out.add 1 0 (V32 a * V32 c + V32 b * V32 c) rfl rfl (by decide) (by decide) (by first | rfl | (rw [V32_D32, V32_D32]) | (rw [V32_D32]) | (simp [V32, valB])) rfl rfl).mono ?_
    rintro e w18 ⟨p18, c18, rfl, hS⟩
    have S18 := Lib.hid hS
    clear hS S17
    go_wp2_with fail
    refine (S18.out.nats 3 0 rfl rfl (by rw [Nat.add_mul]) rfl rfl).mono ?_
    rintro e w19 ⟨rfl, hS⟩
    have S19 := Lib.hid hS
    clear hS S18
    go_wp2_with fail
    refine (S19.out.sum [(p, cp, a), (q, cq, b), (r, cr, c)] _ _ rfl (by simp) 400 (by decide) (fun x hx => by
      simp only [List.mem_cons, List.not_mem_nil, or_false] at hx
      rcases hx with rfl | rfl | rfl
      · exact ⟨400, by simp, Nat.le_refl _⟩
      · exact ⟨400, by simp, Nat.le_refl _⟩
      · exact ⟨400, by simp, Nat.le_refl _⟩) (V32 a + (V32 b + V32 c)) (by simp [sumV]) rfl rfl).mono ?_
    rintro e w20 ⟨p20, c20, rfl, hS⟩
    have S20 := Lib.hid hS
    clear hS S19
    go_wp2_with fail
    refine (S20.out.add 11 14 (V32 a + V32 b + V32 c) rfl rfl (by decide) (by decide) (by first | rfl | (rw [V32_D32, V32_D32]) | (rw [V32_D32]) | (simp [V32, valB])) rfl rfl).mono ?_
    rintro e w21 ⟨p21, c21, rfl, hS⟩
    have S21 := Lib.hid hS
    clear hS S20
    go_wp2_with fail
    refine (S21.out.nats 1 0 rfl rfl (by rw [Nat.add_assoc]) rfl rfl).mono ?_
    rintro e w22 ⟨rfl, hS⟩
    have S22 := Lib.hid hS
    clear hS S21
    go_wp2_with fail
    refine (S22.out.mul 11 15 (V32 a * V32 b * V32 c) rfl rfl (by decide) (by decide) (by first | rfl | (rw [V32_D32, V32_D32]) | (rw [V32_D32]) | (simp [V32, valB])) rfl rfl).mono ?_
    rintro e w23 ⟨p23, c23, rfl, hS⟩
    have S23 := Lib.hid hS
    clear hS S22
    go_wp2_with fail
    refine (S23.out.mul 15 16 (V32 b * V32 c) rfl rfl (by decide) (by decide) (by first | rfl | (rw [V32_D32, V32_D32]) | (rw [V32_D32]) | (simp [V32, valB])) rfl rfl).mono ?_
    rintro e w24 ⟨p24, c24, rfl, hS⟩
    have S24 := Lib.hid hS
    clear hS S23
    go_wp2_with fail
    refine (S24.out.mul 15 0 (V32 a * (V32 b * V32 c)) rfl rfl (by decide) (by decide) (by first | rfl | (rw [V32_D32, V32_D32]) | (rw [V32_D32]) | (simp [V32, valB])) rfl rfl).mono ?_
    rintro e w25 ⟨p25, c25, rfl, hS⟩
    have S25 := Lib.hid hS
    clear hS S24
    go_wp2_with fail
    refine (S25.out.nats 2 0 rfl rfl (by rw [Nat.mul_assoc]) rfl rfl).mono ?_
    rintro e w26 ⟨rfl, hS⟩
    have S26 := Lib.hid hS
    clear hS S25
    go_wp2_with fail
    refine (S26.out.mul 16 19 (0) rfl rfl (by decide) (by decide) (by first | rfl | (rw [V32_D32, V32_D32]) | (rw [V32_D32]) | (simp [V32, valB])) rfl rfl).mono ?_
    rintro e w27 ⟨p27, c27, rfl, hS⟩
    have S27 := Lib.hid hS
    clear hS S26
    have hz : (D32 0).length = 0 := by rw [D32_nil.2 rfl]; rfl
    rw [hz]
    clear hz
    have S28 := Lib.hid (S27.out.lit [1] #[.int .u32 1] 27 rfl (by decide) (ok_of (by decide)))
    clear S27
    go_wp2_with fail
    refine (S28.out.mul 18 0 (V32 a) rfl rfl (by decide) (by decide) (by first | rfl | (rw [V32_D32, V32_D32]) | (rw [V32_D32]) | (simp [V32, valB])) rfl rfl).mono ?_
    rintro e w29 ⟨p29, c29, rfl, hS⟩
    have S29 := Lib.hid hS
    clear hS S28
    go_wp2_with fail
    refine (S29.out.cmp 0 19 rfl rfl rfl rfl 0 (by rw [V32_D32, cmp_eq])).mono ?_
    rintro e w30 ⟨rfl, hS⟩
    have S30 := Lib.hid hS
    clear hS S29
    go_wp2_with fail
    refine (S30.out.add 19 22 (V32 a) rfl rfl (by decide) (by decide) (by first | rfl | (rw [V32_D32, V32_D32]) | (rw [V32_D32]) | (simp [V32, valB])) rfl rfl).mono ?_
    rintro e w31 ⟨p31, c31, rfl, hS⟩
    have S31 := Lib.hid hS
    clear hS S30
    go_wp2_with fail
    refine (S31.out.cmp 0 20 rfl rfl rfl rfl 0 (by rw [V32_D32, cmp_eq])).mono ?_
    rintro e w32 ⟨rfl, hS⟩
    have S32 := Lib.hid hS
    clear hS S31
    have SB := Lib.hid S32.out.below
    clear S32
    go_wp2_with fail
    go_ret
    exact ⟨rfl, SB.out⟩
end Go.Proofs.YtmjaohddmoiodaaDoor
