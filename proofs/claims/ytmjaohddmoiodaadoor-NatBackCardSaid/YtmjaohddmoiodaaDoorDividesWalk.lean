/- NatDivides: its walk: whatever the number and the divisor, it answers true and old memory stays. -/
import Derived.Test.YtmjaohddmoiodaaDoorNatI
import Derived.Test.YtmjaohddmoiodaaDoorNatK
import Derived.Test.YtmjaohddmoiodaaDoorRaw
namespace Go.Proofs.YtmjaohddmoiodaaDoor
open Go.RowKit Go.Extern.Stop Go.Stop Go.Extern NatM

theorem len_div {l : List Nat} (ho : ok32 l) {k : Nat} (hl : l.length ≤ k) (d : Nat) : (D32 (V32 l / d)).length ≤ k := D32_len (Nat.lt_of_le_of_lt (Nat.div_le_self _ _) (len_of ho hl))
theorem longB_one (p : Option Addr) (c : Nat) (a : List Nat) : longB [(p, c, a)] = decide (400 < a.length) := by simp [longB]
/-- a law begins: the number, then the nil list -/
theorem St.one {w : World} {p : Option Addr} {c : Nat} {a : List Nat} (ha : NatV w.heap.size w p c a) : St w w [((p, c, a), a.length), ((none, 0, []), 0)] := ⟨fun x hx => by
    simp only [List.mem_cons, List.not_mem_nil, or_false] at hx
    rcases hx with rfl | rfl
    · exact ⟨ha, Nat.le_refl _⟩
    · exact ⟨NatV.nothing w, Nat.le_refl _⟩, Below.refl _ _⟩
theorem St.cap400 {w wx : World} {p : Option Addr} {c : Nat} {a : List Nat} (S : St w wx [((p, c, a), a.length), ((none, 0, []), 0)]) (h : a.length ≤ 400) : St w wx [((p, c, a), 400), ((none, 0, []), 0)] := S.bound (fun x hx => by
    simp only [List.mem_cons, List.not_mem_nil, or_false] at hx
    rcases hx with rfl | rfl
    · exact ⟨⟨a.length, by simp⟩, h⟩
    · exact ⟨⟨0, by simp⟩, Nat.zero_le _⟩)

set_option maxRecDepth 100000 in
set_option maxHeartbeats 4000000 in
theorem divides_any (p : Option Addr) (cp : Nat) (a : List Nat) (d : Nat) (hd : d < 4294967296) (w : World) (A : Nat → Addr) (hr : Roots w A) (hT : TypeVar w) (ha : NatV w.heap.size w p cp a) :
    Calls Tryd.prog 7 #[.slice p a.length cp, .int .u32 (d : Int)] w (Tells (.bool true) w) := by
  have S0 := Lib.hid (St.one ha)
  have HR := Lib.hid (And.intro hr hT)
  have hle := ha.le
  have hcap := ha.cap
  unfold maxLen at hcap
  clear ha hr hT
  go_enter Tryd.func7, Tryd.ntmps7
  go_wp2_with fail
  refine (S0.out.tells (awake_any _)).mono ?_
  rintro e w1 ⟨rfl, hS⟩
  have S1 := Lib.hid hS
  clear hS S0
  obtain ⟨lb, hlb⟩ : ∃ lb, longB [(p, cp, a)] = lb := ⟨_, rfl⟩
  have HLB := Lib.hid hlb
  clear hlb
  go_wp2_with fail
  refine (S1.out.long [(p, cp, a)] _ _ rfl (by simp) (fun x hx => by
    simp only [List.mem_cons, List.not_mem_nil, or_false] at hx
    subst hx
    exact ⟨a.length, by simp⟩) rfl rfl).mono ?_
  rintro e w2 ⟨rfl, hS⟩
  rw [HLB.out]
  cases lb with
  | true =>
    have S2 := Lib.hid hS.below
    clear hS S1
    go_wp2_with fail
    go_ret
    exact ⟨rfl, S2.out⟩
  | false =>
    have hlen : a.length ≤ 400 := by
      have h := HLB.out
      rw [longB_one] at h
      have := of_decide_eq_false h
      omega
    have S2 := Lib.hid (hS.cap400 hlen)
    clear hS S1 HLB
    rcases Nat.eq_zero_or_pos d with h0 | h0
    · subst h0
      go_wp2_with fail
      refine (over_zero p a.length cp _ A (HR.out.1.below S2.out.below)).mono ?_
      rintro e w3 ⟨b, rfl, hl3, hb3⟩
      have hv : (Tree.fault b natOp 0 (.leaf (A 3))).val = .iface 79 (.pointer (some ⟨b, 0, none⟩)) := rfl
      have S3 := Lib.hid (And.intro hl3 (S2.out.next hb3).below)
      rw [hv]
      clear hl3 hb3 S2 hv
      go_wp2_with fail
      refine (raw_new natOp 0 3 _).mono ?_
      rintro e w4 ⟨po, pa, rfl, hw4, hb4⟩
      have hB4 := S3.out.2.trans (hb4.mono S3.out.2.size)
      have hl4 := Tree.lies_below hb4 (t := .fault b natOp 0 (.leaf (A 3))) S3.out.1
      have HI := Lib.hid (Is_chain [(b, natOp, 0)] 3 (by omega) po pa 1 1 1 w4 A (HR.out.1.below hB4) (HR.out.2.below hB4) hl4 hw4 rfl)
      have HB4 := Lib.hid hB4
      clear hw4 hb4 hB4 hl4 S3
      go_wp2_with fail
      refine HI.out.mono ?_
      rintro e w5 ⟨rfl, hb5⟩
      have HB5 := Lib.hid (HB4.out.trans (hb5.mono HB4.out.size))
      clear hb5 HB4 HI
      go_wp2_with fail
      go_ret
      exact ⟨rfl, HB5.out⟩
    · have hd0 : ((d : Int) == 0) = false := by rw [beq_eq_false_iff_ne]; omega
      go_wp2_with fail
      refine (over_any p cp a d _ (S2.out.get (i := 0) rfl).1 (by omega) h0 hd).mono ?_
      rintro e w3 ⟨p3, c3, rfl, ho3, hb3⟩
      have hrd : V32 a % d < d := Nat.mod_lt _ h0
      have hdm : V32 a / d * d + V32 a % d = V32 a := by rw [Nat.mul_comm]; exact Nat.div_add_mod _ _
      have hql : (D32 (V32 a / d)).length ≤ 400 := len_div (S2.out.get (i := 0) rfl).1.ok hlen d
      have S3 := Lib.hid (S2.out.push hb3 ho3.toV hql)
      obtain ⟨r, hr⟩ : ∃ r, V32 a % d = r := ⟨_, rfl⟩
      obtain ⟨Q, hQ⟩ : ∃ Q, V32 a / d = Q := ⟨_, rfl⟩
      rw [hr] at hrd hdm ⊢
      rw [hQ] at hdm S3 ⊢
      have HDM := Lib.hid hdm
      have hrl : r < 4294967296 := by omega
      clear hdm hql ho3 hb3 S2 hr hQ
      go_wp2_with fail
      refine (S3.out.normal 0 rfl rfl).mono ?_
      rintro e w4 ⟨rfl, hS⟩
      have S4 := Lib.hid (hS.lit [d] #[.int .u32 (d : Int)] 27 rfl (by simp) (okB_one hd))
      clear hS S3
      go_wp2_with fail
      refine (S4.out.mul 1 0 (Q * d) rfl rfl (by simp) (by simp) (by rw [V32_D32]; simp [V32, valB]) rfl rfl).mono ?_
      rintro e w5 ⟨p5, c5, rfl, hS⟩
      have S5 := Lib.hid (hS.lit [r] #[.int .u32 (r : Int)] 27 rfl (by simp) (okB_one hrl))
      clear hS S4
      go_wp2_with fail
      refine (S5.out.add 1 0 (V32 a) rfl rfl (by simp) (by simp) (by rw [V32_D32]; simp only [V32, valB]; have := HDM.out; unfold V32 at this; omega) rfl rfl).mono ?_
      rintro e w6 ⟨p6, c6, rfl, hS⟩
      have S6 := Lib.hid hS
      clear hS S5
      go_wp2_with fail
      refine (S6.out.cmp 0 5 rfl rfl rfl rfl 0 (by rw [V32_D32, cmp_eq])).mono ?_
      rintro e w7 ⟨rfl, hS⟩
      have SB := Lib.hid hS.below
      clear hS S6
      go_wp2_with fail
      go_ret
      exact ⟨rfl, SB.out⟩
end Go.Proofs.YtmjaohddmoiodaaDoor
