/- The document's own package of words by its contracts, third part: Period. -/
import Derived.Test.YthhighljfjeooaaDoorRefWB
namespace Go.Proofs.YthhighljfjeooaaDoor
open Go.RowKit WordM

set_option maxRecDepth 100000 in
set_option maxHeartbeats 4000000 in
theorem period_ref (p : Option Addr) (n c : Nat) (l : List Int) (w : World) (hn : n = l.length) (h : IntV w.heap.size w p c l) (hl : l.length ≤ 1000000) :
    Calls Tryd.prog 27 #[.slice p n c] w (Tells (.int .i64 (perW l : Int)) w) := by
  have hle := h.le
  have hcap := h.cap
  unfold maxLen at hcap
  have hnc : n ≤ c := by omega
  have hnl : n ≤ 1000000 := by omega
  have H := Lib.hid (And.intro h (And.intro hn hl))
  clear h hn hl hle
  go_enter Tryd.func27, Tryd.ntmps27
  go_wp2_with fail
  go_loopw [3] (fun v wr => ∃ q : Nat, 1 ≤ q ∧ q ≤ n + 1 ∧ v = .int .i64 (q : Int) ∧ Below w.heap.size w wr ∧ Hid (∀ r, 1 ≤ r → r < q → ¬ (r ∣ n ∧ Per l r))) (fun v _ => n + 1 - (intOf v).toNat)
  case atStart => exact ⟨1, Nat.le_refl _, by omega, rfl, Below.refl _ _, by intro r h1 h2; omega⟩
  case round =>
    obtain ⟨q, hq1, hqn, rfl, hb, hno⟩ := hrel
    by_cases hlt : q ≤ n
    · obtain ⟨m, hmm⟩ : ∃ m, n % q = m := ⟨_, rfl⟩
      have e2 : (n : Int) % (q : Int) = (m : Int) := by rw [← hmm]; rfl
      have e1 : (n : Int).tmod (q : Int) = (m : Int) := by rw [Int.tmod_eq_emod_of_nonneg (by omega), e2]
      by_cases hm : m = 0
      · subst hm
        have hd : q ∣ n := Nat.dvd_of_mod_eq_zero hmm
        have ht := turn_ref p n c l (q : Int) wr H.out.2.1 (H.out.1.next hb) (by have := H.out.2.2; omega)
        rw [turnW_nat'] at ht
        have HT := Lib.hid (And.intro ht (And.intro hb hd))
        clear ht hb hd hmm
        go_wp2_with fail
        refine HT.out.1.mono ?_
        rintro e w1 ⟨p1, c1, rfl, ho1, hb1⟩
        have hb01 := HT.out.2.1.trans (hb1.mono HT.out.2.1.size)
        have hi := ints_any p1 p _ n c1 c (rot l q) l w1 rfl H.out.2.1 ho1.toV (H.out.1.next hb01)
        obtain ⟨same, hs⟩ : ∃ same, sameI (rot l q) l = same := ⟨_, rfl⟩
        rw [hs] at hi
        have H1 := Lib.hid (And.intro hi (And.intro hb01 hs))
        clear hi hb01 hs ho1 hb1
        go_wp2_with fail
        refine H1.out.1.mono ?_
        rintro e w2 ⟨rfl, hb2⟩
        have H2 := Lib.hid (H1.out.2.1.trans (hb2.mono H1.out.2.1.size))
        clear hb2
        rcases same with _ | _
        · go_wp2_with fail
          go_roundw
          case rel => exact ⟨q + 1, by omega, by omega, by go_num, H2.out, by
            intro r h1 h2
            rcases (by omega : r < q ∨ r = q) with h4 | rfl
            · exact hno.out r h1 h4
            · rintro ⟨_, k⟩
              have e := H1.out.2.2
              rw [per_rot k, sameI_self] at e
              cases e⟩
          case measure => simp [intOf]; omega
        · have hp : perW l = q := perW_eq (by have := H.out.2.1; omega) ⟨hq1, by rw [← H.out.2.1]; exact HT.out.2.2, per_of_rot (by have e := H1.out.2.2; simpa [sameI] using e), fun r h1 h2 => by rw [← H.out.2.1]; exact hno.out r h1 h2⟩
          have HP := Lib.hid hp
          clear hp
          go_wp2_with fail
          go_ret
          exact ⟨by rw [HP.out]; rfl, H2.out⟩
      · have hz : ((m : Int) == 0) = false := by rw [beq_eq_false_iff_ne]; omega
        have HD := Lib.hid (And.intro hmm (And.intro hm hb))
        clear hm hmm hb
        go_wp2_with fail
        go_roundw
        case rel => exact ⟨q + 1, by omega, by omega, by go_num, HD.out.2.2, by
          intro r h1 h2
          rcases (by omega : r < q ∨ r = q) with h4 | rfl
          · exact hno.out r h1 h4
          · exact fun k => HD.out.2.1 (HD.out.1.symm.trans (Nat.mod_eq_zero_of_dvd k.1))⟩
        case measure => simp [intOf]; omega
    · have hp : perW l = 0 := by
        rcases Nat.eq_zero_or_pos n with h0 | h0
        · have hl0 : l = [] := List.eq_nil_of_length_eq_zero (by have := H.out.2.1; omega)
          rw [hl0, perW_nil]
        · exact absurd ⟨Nat.dvd_refl n, by have := per_len l; rwa [← H.out.2.1] at this⟩ (hno.out n h0 (by omega))
      have HP := Lib.hid (And.intro hp hb)
      clear hp hb
      go_wp2_with fail
      go_ret
      exact ⟨by rw [HP.out.1]; rfl, HP.out.2⟩
end Go.Proofs.YthhighljfjeooaaDoor
