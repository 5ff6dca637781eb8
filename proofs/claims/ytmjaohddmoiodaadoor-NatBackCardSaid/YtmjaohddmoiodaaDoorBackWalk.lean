/- NatBack: its walk: whatever the two numbers, it answers true and old memory stays. -/
import Derived.Test.YtmjaohddmoiodaaDoorDividesWalk
namespace Go.Proofs.YtmjaohddmoiodaaDoor
open Go.RowKit Go.Extern.Stop Go.Stop Go.Extern NatM

def SubsPost (w : World) (L : List (Nt × Nat)) (N k : Nat) (e : Ending) (w' : World) : Prop :=
  ∃ p c, e = .returned (.tuple #[.slice p (D32 N).length c, .nilIface]) ∧ St w w' (((p, c, D32 N), k) :: L)
theorem St.gives {w wx : World} {L : List (Nt × Nat)} (S : St w wx L) {f : FuncId} {args : Array Value} {N k : Nat} (h : Calls Tryd.prog f args wx (OkPost wx N)) (hk : (D32 N).length ≤ k) : Calls Tryd.prog f args wx (SubsPost w L N k) :=
  h.mono fun _ _ ⟨p, c, he, ho, hb⟩ => ⟨p, c, he, S.push hb ho.toV hk⟩
theorem len_sub {l : List Nat} (ho : ok32 l) {k : Nat} (hl : l.length ≤ k) (d : Nat) : (D32 (V32 l - d)).length ≤ k := D32_len (Nat.lt_of_le_of_lt (Nat.sub_le _ _) (len_of ho hl))
theorem St.sub {w wx : World} {L : List (Nt × Nat)} (S : St w wx L) (i i' N : Nat) {p q : Option Addr} {n n' c d : Nat} {l m : List Nat} {j k : Nat} (hi : L[i]? = some ((p, c, l), j)) (hi' : L[i']? = some ((q, d, m), k))
    (hj : j ≤ 100000) (hle : V32 m ≤ V32 l) (hN : V32 l - V32 m = N) (hn : n = l.length) (hn' : n' = m.length) : Calls Tryd.prog 28 #[.slice p n c, .slice q n' d] wx (SubsPost w L N j) := by
  subst hN hn hn'
  exact S.gives (sub_any p q c d l m wx (S.get hi).1 (S.get hi').1 hle (Nat.le_trans (S.get hi).2 hj)) (len_sub (S.get hi).1.ok (S.get hi).2 _)

set_option maxRecDepth 100000 in
set_option maxHeartbeats 8000000 in
theorem back_any (p q : Option Addr) (cp cq : Nat) (a b : List Nat) (w : World) (A : Nat → Addr) (hr : Roots w A) (hT : TypeVar w) (ha : NatV w.heap.size w p cp a) (hb : NatV w.heap.size w q cq b) :
    Calls Tryd.prog 5 #[.slice p a.length cp, .slice q b.length cq] w (Tells (.bool true) w) := by
  have hS : St w w [((p, cp, a), a.length), ((q, cq, b), b.length)] := ⟨fun x hx => by
    simp only [List.mem_cons, List.not_mem_nil, or_false] at hx
    rcases hx with rfl | rfl
    · exact ⟨ha, Nat.le_refl _⟩
    · exact ⟨hb, Nat.le_refl _⟩, Below.refl _ _⟩
  have S0 := Lib.hid hS
  have HR := Lib.hid (And.intro hr hT)
  clear hS ha hb hr hT
  go_enter Tryd.func5, Tryd.ntmps5
  go_wp2_with fail
  refine (S0.out.tells (awake_any _)).mono ?_
  rintro e w1 ⟨rfl, hS⟩
  have S1 := Lib.hid hS
  clear hS S0
  obtain ⟨lb, hlb⟩ : ∃ lb, longB [(p, cp, a), (q, cq, b)] = lb := ⟨_, rfl⟩
  have HLB := Lib.hid hlb
  clear hlb
  go_wp2_with fail
  refine (S1.out.long [(p, cp, a), (q, cq, b)] _ _ rfl (by simp) (fun x hx => by
    simp only [List.mem_cons, List.not_mem_nil, or_false] at hx
    rcases hx with rfl | rfl
    · exact ⟨a.length, by simp⟩
    · exact ⟨b.length, by simp⟩) rfl rfl).mono ?_
  rintro e w2 ⟨rfl, hS⟩
  rw [HLB.out]
  cases lb with
  | true =>
    have S2 := Lib.hid hS.below
    clear hS S1
    go_wp2_with fail
    go_ret
    exact ⟨rfl, S2.out⟩
  | false =>
    have hlen : a.length ≤ 400 ∧ b.length ≤ 400 := by
      have h := HLB.out
      simp [longB] at h
      exact h
    have S2 := Lib.hid (hS.bound (L' := [((p, cp, a), 400), ((q, cq, b), 400)]) (fun x hx => by
      simp only [List.mem_cons, List.not_mem_nil, or_false] at hx
      rcases hx with rfl | rfl
      · exact ⟨⟨a.length, by simp⟩, hlen.1⟩
      · exact ⟨⟨b.length, by simp⟩, hlen.2⟩))
    clear hS S1 hlen HLB
    go_wp2_with fail
    refine (S2.out.add 0 1 (V32 a + V32 b) rfl rfl (by decide) (by decide) rfl rfl rfl).mono ?_
    rintro e w3 ⟨p3, c3, rfl, hS⟩
    have S3 := Lib.hid hS
    clear hS S2
    go_wp2_with fail
    refine (S3.out.sub 0 2 (V32 a) rfl rfl (by decide) (by rw [V32_D32]; omega) (by rw [V32_D32]; omega) rfl rfl).mono ?_
    rintro e w4 ⟨p4, c4, rfl, hS⟩
    have S4 := Lib.hid hS
    clear hS S3
    go_wp2_with fail
    refine (S4.out.cmp 0 2 rfl rfl rfl rfl 0 (by rw [V32_D32, cmp_eq])).mono ?_
    rintro e w5 ⟨rfl, hS⟩
    have S5 := Lib.hid hS
    clear hS S4
    go_wp2_with fail
    refine (S5.out.normal 0 rfl rfl).mono ?_
    rintro e w6 ⟨rfl, hS⟩
    have S6 := Lib.hid hS
    clear hS S5
    obtain ⟨r, hr0, hr⟩ : ∃ r : Int, 0 ≤ r ∧ cmpN (V32 a + V32 b) (V32 a) = r := by
      rcases Nat.eq_zero_or_pos (V32 b) with h | h
      · exact ⟨0, by omega, by rw [h, Nat.add_zero, cmp_eq]⟩
      · exact ⟨1, by omega, by rw [cmp_gt (by omega)]⟩
    have HRR := Lib.hid hr
    clear hr
    go_wp2_with fail
    refine (S6.out.cmp 1 2 rfl rfl rfl rfl r (by rw [V32_D32]; exact HRR.out)).mono ?_
    rintro e w7 ⟨rfl, hS⟩
    have S7 := Lib.hid hS
    clear hS S6
    rcases Nat.lt_trichotomy (V32 a) (V32 b) with hab | hab | hab
    · have HAB := Lib.hid hab
      clear hab
      go_wp2_with fail
      refine (S7.out.cmp 2 3 rfl rfl rfl rfl (-1) (cmp_lt HAB.out)).mono ?_
      rintro e w8 ⟨rfl, hS⟩
      have S8 := Lib.hid hS
      clear hS S7
      go_wp2_with fail
      refine (S8.out.cmp 3 2 rfl rfl rfl rfl (1) (cmp_gt HAB.out)).mono ?_
      rintro e w9 ⟨rfl, hS⟩
      have S9 := Lib.hid hS
      clear hS S8
      go_wp2_with fail
      refine (S9.out.cmp 2 2 rfl rfl rfl rfl 0 (cmp_eq _)).mono ?_
      rintro e w10 ⟨rfl, hS⟩
      have S10 := Lib.hid hS
      clear hS S9
      go_wp2_with fail
      refine (sub_less p q cp cq a b _ A (HR.out.1.below S10.out.below) (S10.out.get (i := 2) rfl).1 (S10.out.get (i := 3) rfl).1 HAB.out).mono ?_
      rintro e w11 ⟨bb, rfl, hl11, hb11⟩
      have hv : (Tree.fault bb natOp 0 (.leaf (A 3))).val = .iface 79 (.pointer (some ⟨bb, 0, none⟩)) := rfl
      have S11 := Lib.hid (And.intro (S10.out.next hb11) hl11)
      rw [hv]
      clear hl11 hb11 S10 hv
      go_wp2_with fail
      have hC := cmp_any p q cp cq a b w11 (S11.out.1.get (i := 2) rfl).1 (S11.out.1.get (i := 3) rfl).1
      have hcv : cmpV a b = .int .i64 (-1) := by unfold cmpV; rw [cmp_lt HAB.out]
      rw [hcv] at hC
      refine hC.mono ?_
      rintro e w12 ⟨rfl, hb12⟩
      have S12 := Lib.hid (And.intro (S11.out.1.next hb12).below (Tree.lies_below hb12 (t := .fault bb natOp 0 (.leaf (A 3))) S11.out.2))
      clear hC hcv hb12 S11
      go_wp2_with fail
      refine (raw_new natOp 0 3 _).mono ?_
      rintro e w13 ⟨po, pa, rfl, hw13, hb13⟩
      have hB13 := S12.out.1.trans (hb13.mono S12.out.1.size)
      have hl13 := Tree.lies_below hb13 (t := .fault bb natOp 0 (.leaf (A 3))) S12.out.2
      have HI := Lib.hid (Is_chain [(bb, natOp, 0)] 3 (by omega) po pa 1 1 1 w13 A (HR.out.1.below hB13) (HR.out.2.below hB13) hl13 hw13 rfl)
      have HB13 := Lib.hid hB13
      clear hw13 hb13 hB13 hl13 S12
      go_wp2_with fail
      refine HI.out.mono ?_
      rintro e w14 ⟨rfl, hb14⟩
      have HB14 := Lib.hid (HB13.out.trans (hb14.mono HB13.out.size))
      clear hb14 HB13 HI
      go_wp2_with fail
      go_ret
      exact ⟨rfl, HB14.out⟩
    · have HAB := Lib.hid hab
      clear hab
      go_wp2_with fail
      refine (S7.out.cmp 2 3 rfl rfl rfl rfl (0) (by rw [HAB.out, cmp_eq])).mono ?_
      rintro e w8 ⟨rfl, hS⟩
      have S8 := Lib.hid hS
      clear hS S7
      go_wp2_with fail
      refine (S8.out.cmp 3 2 rfl rfl rfl rfl (0) (by rw [HAB.out, cmp_eq])).mono ?_
      rintro e w9 ⟨rfl, hS⟩
      have S9 := Lib.hid hS
      clear hS S8
      go_wp2_with fail
      refine (S9.out.cmp 2 2 rfl rfl rfl rfl 0 (cmp_eq _)).mono ?_
      rintro e w10 ⟨rfl, hS⟩
      have S10 := Lib.hid hS
      clear hS S9
      go_wp2_with fail
      refine (S10.out.sub 2 3 0 rfl rfl (by decide) (by have := HAB.out; omega) (by have := HAB.out; omega) rfl rfl).mono ?_
      rintro e w11 ⟨p11, c11, rfl, hS⟩
      have S11 := Lib.hid hS
      clear hS S10
      have hz : (D32 0).length = 0 := by rw [D32_nil.2 rfl]; rfl
      rw [hz]
      have HZ := Lib.hid hz
      clear hz
      go_wp2_with fail
      refine (S11.out.cmp 3 4 rfl rfl rfl rfl (0) (by rw [HAB.out, cmp_eq])).mono ?_
      rintro e w12 ⟨rfl, hS⟩
      have S12 := Lib.hid hS
      clear hS S11
      go_wp2_with fail
      refine (S12.out.add 0 4 (V32 a) rfl rfl (by decide) (by decide) (by rw [V32_D32]; have := HAB.out; omega) HZ.out.symm rfl).mono ?_
      rintro e w13 ⟨p13, c13, rfl, hS⟩
      have S13 := Lib.hid hS
      clear hS S12
      go_wp2_with fail
      refine (S13.out.cmp 0 4 rfl rfl rfl rfl 0 (by rw [V32_D32, cmp_eq])).mono ?_
      rintro e w14 ⟨rfl, hS⟩
      have S14 := Lib.hid hS
      clear hS S13
      go_wp2_with fail
      refine (S14.out.cmp 4 5 rfl rfl rfl rfl (0) (by rw [HAB.out, cmp_eq])).mono ?_
      rintro e w15 ⟨rfl, hS⟩
      have SB := Lib.hid hS.below
      clear hS S14
      go_wp2_with fail
      go_ret
      exact ⟨rfl, SB.out⟩
    · have HAB := Lib.hid hab
      clear hab
      go_wp2_with fail
      refine (S7.out.cmp 2 3 rfl rfl rfl rfl (1) (cmp_gt HAB.out)).mono ?_
      rintro e w8 ⟨rfl, hS⟩
      have S8 := Lib.hid hS
      clear hS S7
      go_wp2_with fail
      refine (S8.out.cmp 3 2 rfl rfl rfl rfl (-1) (cmp_lt HAB.out)).mono ?_
      rintro e w9 ⟨rfl, hS⟩
      have S9 := Lib.hid hS
      clear hS S8
      go_wp2_with fail
      refine (S9.out.cmp 2 2 rfl rfl rfl rfl 0 (cmp_eq _)).mono ?_
      rintro e w10 ⟨rfl, hS⟩
      have S10 := Lib.hid hS
      clear hS S9
      go_wp2_with fail
      refine (S10.out.sub 2 3 (V32 a - V32 b) rfl rfl (by decide) (by have := HAB.out; omega) (by have := HAB.out; omega) rfl rfl).mono ?_
      rintro e w11 ⟨p11, c11, rfl, hS⟩
      have S11 := Lib.hid hS
      clear hS S10
      have hpos : 0 < (D32 (V32 a - V32 b)).length := List.length_pos_iff.2 (fun e => by have := D32_nil.1 e; have := HAB.out; omega)
      obtain ⟨ln, hln⟩ : ∃ ln, (D32 (V32 a - V32 b)).length = ln := ⟨_, rfl⟩
      rw [hln] at hpos ⊢
      have hl0 : ((ln : Int) == 0) = false := by rw [beq_eq_false_iff_ne]; omega
      have HZ := Lib.hid hln
      clear hln
      go_wp2_with fail
      refine (S11.out.cmp 3 4 rfl rfl rfl rfl (1) (cmp_gt HAB.out)).mono ?_
      rintro e w12 ⟨rfl, hS⟩
      have S12 := Lib.hid hS
      clear hS S11
      go_wp2_with fail
      refine (S12.out.add 0 4 (V32 a) rfl rfl (by decide) (by decide) (by rw [V32_D32]; have := HAB.out; omega) HZ.out.symm rfl).mono ?_
      rintro e w13 ⟨p13, c13, rfl, hS⟩
      have S13 := Lib.hid hS
      clear hS S12
      go_wp2_with fail
      refine (S13.out.cmp 0 4 rfl rfl rfl rfl 0 (by rw [V32_D32, cmp_eq])).mono ?_
      rintro e w14 ⟨rfl, hS⟩
      have S14 := Lib.hid hS
      clear hS S13
      go_wp2_with fail
      refine (S14.out.cmp 4 5 rfl rfl rfl rfl (1) (cmp_gt HAB.out)).mono ?_
      rintro e w15 ⟨rfl, hS⟩
      have SB := Lib.hid hS.below
      clear hS S14
      go_wp2_with fail
      go_ret
      exact ⟨rfl, SB.out⟩
end Go.Proofs.YtmjaohddmoiodaaDoor
