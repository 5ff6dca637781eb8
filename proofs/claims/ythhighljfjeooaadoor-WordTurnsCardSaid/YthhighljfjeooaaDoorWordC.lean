/- Package word by its contracts, third part: Period, Least. -/
import Derived.Test.YthhighljfjeooaaDoorWordB
namespace Go.Proofs.YthhighljfjeooaaDoor
open Go.RowKit WordM

open Classical in
/-- the period of a word; 0 for the empty one -/
noncomputable def perW (l : List Int) : Nat := if h : l.length ≠ 0 ∧ ∃ p, IsPer l p then h.2.choose else 0
theorem perW_eq {l : List Int} {p : Nat} (h0 : l.length ≠ 0) (h : IsPer l p) : perW l = p := by
  unfold perW
  have hx : l.length ≠ 0 ∧ ∃ p, IsPer l p := ⟨h0, p, h⟩
  rw [dif_pos hx]
  exact isPer_unique hx.2.choose_spec h
theorem perW_nil : perW [] = 0 := by unfold perW; rw [dif_neg (by simp)]
open Classical in
/-- the least turn of a word; 0 for the empty one -/
noncomputable def leastW (l : List Int) : Nat := if h : ∃ p, IsLeast l p then h.choose else 0
theorem leastW_eq {l : List Int} {p : Nat} (h : IsLeast l p) : leastW l = p := by
  unfold leastW
  have hx : ∃ p, IsLeast l p := ⟨p, h⟩
  rw [dif_pos hx]
  exact isLeast_unique hx.choose_spec h
theorem leastW_nil : leastW [] = 0 := by
  unfold leastW
  rw [dif_neg]
  rintro ⟨p, h⟩
  have := h.1
  simp at this
theorem leastW_is {l : List Int} (h : 0 < l.length) : IsLeast l (leastW l) := by
  obtain ⟨p, hp⟩ := least_exists h
  rw [leastW_eq hp]; exact hp

theorem piece_same {l : List Int} {q n : Nat} (hn : n = l.length) (hd : q ∣ n) (h : sameI (l.drop q) (l.take (n - q)) = true) : Per l q := by
  have e : l.drop q = l.take (n - q) := by simpa [sameI] using h
  refine per_piece (by rw [← hn]; exact hd) (fun i hi => ?_)
  have h1 := congrArg (fun x : List Int => x[i]?) e
  simp only [List.getElem?_drop, List.getElem?_take] at h1
  rw [if_pos (by omega)] at h1
  rw [Nat.add_comm]
  exact h1
theorem piece_other {l : List Int} {q n : Nat} (hn : n = l.length) (hq : q ≤ n) (h : sameI (l.drop q) (l.take (n - q)) = false) : ¬ Per l q := by
  intro k
  have e : ¬ l.drop q = l.take (n - q) := by simpa [sameI] using h
  apply e
  apply List.ext_getElem?
  intro i
  rw [List.getElem?_drop, List.getElem?_take]
  by_cases hi : i < n - q
  · rw [if_pos hi, Nat.add_comm]
    exact piece_per k i (by omega)
  · rw [if_neg hi, List.getElem?_eq_none (by omega)]
set_option maxRecDepth 100000 in
set_option maxHeartbeats 4000000 in
theorem period_any (p : Option Addr) (n c : Nat) (l : List Int) (w : World) (hn : n = l.length) (h : IntV w.heap.size w p c l) (hl : l.length ≤ 17592186044000) :
    Calls Tryd.prog 25 #[.slice p n c] w (Quiet (.int .i64 (perW l : Int)) w) := by
  have hle := h.le
  have hcap := h.cap
  unfold maxLen at hcap
  have hnc : n ≤ c := by omega
  have hnl : n ≤ 17592186044000 := by omega
  have H := Lib.hid (And.intro h hn)
  clear h hn hl hle
  go_enter Tryd.func25, Tryd.ntmps25
  go_wp2_with fail
  go_loopw [4] (fun v wr => ∃ q : Nat, 1 ≤ q ∧ q ≤ n + 1 ∧ v = .int .i64 (q : Int) ∧ Hid (∃ a, wr = w.drewN a) ∧ Hid (∀ r, 1 ≤ r → r < q → r < n → ¬ (r ∣ n ∧ Per l r))) (fun v _ => n + 1 - (intOf v).toNat)
  case atStart => exact ⟨1, Nat.le_refl _, by omega, rfl, ⟨0, rfl⟩, by intro r h1 h2; omega⟩
  case round =>
    obtain ⟨q, hq1, hqn, rfl, hdr, hno⟩ := hrel
    by_cases hlt : q < n
    · have hbw : Below w.heap.size w wr := hdr.out.elim fun a e => e ▸ below_drewN (Below.refl _ _) a
      have hv := H.out.1.next hbw
      obtain ⟨b, off, rfl, hb, hc⟩ := hv.cell (by have := H.out.2; rintro rfl; simp at this; omega)
      obtain ⟨m, hmm⟩ : ∃ m, n % q = m := ⟨_, rfl⟩
      have e2 : (n : Int) % (q : Int) = (m : Int) := by rw [← hmm]; rfl
      have e1 : (n : Int).tmod (q : Int) = (m : Int) := by rw [Int.tmod_eq_emod_of_nonneg (by omega), e2]
      have hw : IntKind.i64.wrap ((n : Int) - (q : Int)) = ((n - q : Nat) : Int) := by rw [IntWalk.i64_in _ (by omega)]; omega
      have hsub : ((n : Int) - (q : Int)) = ((n - q : Nat) : Int) := by omega
      by_cases hm : m = 0
      · subst hm
        have hm := hmm
        have hd : q ∣ n := Nat.dvd_of_mod_eq_zero hm
        have heq := equal_q (some ⟨b, off + q, none⟩) (some ⟨b, off, none⟩) (n - q) (n - q) (c - q) c (l.drop q) (l.take (n - q))
        have hd1 : (l.drop q).length = n - q := by rw [List.length_drop, H.out.2]
        have hd2 : (l.take (n - q)).length = n - q := by rw [List.length_take, ← H.out.2]; omega
        have hcall : ∀ a, Calls Tryd.prog 69 #[.slice (some ⟨b, off + q, none⟩) (n - q) (c - q), .slice (some ⟨b, off, none⟩) (n - q) c] (wr.drewN a) (Quiet (.bool (sameI (l.drop q) (l.take (n - q)))) (wr.drewN a)) := fun a =>
          heq _ hd1.symm hd2.symm (hd1.trans hd2.symm) ((hv.next (below_drewN (Below.refl _ _) a)).drop q (by have := H.out.2; omega)) ((hv.next (below_drewN (Below.refl _ _) a)).take _)
        have HC := Lib.hid hcall
        have h0q : (0 : Int) ≤ (q : Int) := by omega
        have hqn2 : (q : Int) ≤ (n : Int) := by omega
        have hnc2 : (n : Int) ≤ (c : Int) := by omega
        have hcq : ¬ (c : Int) = (q : Int) := by omega
        have hcq2 : ¬ c = q := by omega
        have hnq : (((n - q : Nat) : Int)) ≤ (c : Int) := by omega
        have HD := Lib.hid (And.intro hd hm)
        clear hcall heq hd hm hmm hbw hv hc hd1 hd2
        obtain ⟨same, hs⟩ : ∃ same, sameI (l.drop q) (l.take (n - q)) = same := ⟨_, rfl⟩
        rw [hs] at HC
        have HS := Lib.hid hs
        clear hs
        rcases same with _ | _
        · go_wp2_with fail
          go_quiet ((go_at_call 69; exact Quiet.add (HC.out _)))
          go_wp2_with fail
          go_roundw
          case rel => exact ⟨q + 1, by omega, by omega, by go_num, quiet_more hdr.out _, by
            intro r h1 h2 h3
            rcases (by omega : r < q ∨ r = q) with h4 | rfl
            · exact hno.out r h1 h4 h3
            · exact fun k => piece_other H.out.2 (by omega) HS.out k.2⟩
          case measure => simp [intOf]; omega
        · have hp : perW l = q := perW_eq (by have := H.out.2; omega) ⟨hq1, by rw [← H.out.2]; exact HD.out.1, piece_same H.out.2 HD.out.1 HS.out, fun r h1 h2 => by rw [← H.out.2]; exact hno.out r h1 h2 (by omega)⟩
          have HP := Lib.hid hp
          clear hp
          go_wp2_with fail
          go_quiet ((go_at_call 69; exact Quiet.add (HC.out _)))
          go_wp2_with fail
          go_ret
          exact ⟨by rw [HP.out]; rfl, quiet_more hdr.out _⟩
      · have hz : ((m : Int) == 0) = false := by rw [beq_eq_false_iff_ne]; omega
        have HD := Lib.hid (And.intro hmm hm)
        clear hbw hv hc hm hmm
        go_wp2_with fail
        go_quiet (fail)
        go_wp2_with fail
        go_roundw
        case rel => exact ⟨q + 1, by omega, by omega, by go_num, quiet_more hdr.out _, by
          intro r h1 h2 h3
          rcases (by omega : r < q ∨ r = q) with h4 | rfl
          · exact hno.out r h1 h4 h3
          · exact fun k => HD.out.2 (HD.out.1.symm.trans (Nat.mod_eq_zero_of_dvd k.1))⟩
        case measure => simp [intOf]; omega
    · have hp : perW l = n := by
        rcases Nat.eq_zero_or_pos n with h0 | h0
        · have hl0 : l = [] := List.eq_nil_of_length_eq_zero (by have := H.out.2; omega)
          rw [hl0, perW_nil, h0]
        · refine perW_eq (by have := H.out.2; omega) ⟨h0, by rw [← H.out.2]; exact Nat.dvd_refl _, by rw [H.out.2]; exact per_len l, fun r h1 h2 => ?_⟩
          rw [← H.out.2]
          exact hno.out r h1 (by omega) h2
      have HP := Lib.hid hp
      clear hp
      go_wp2_with fail
      go_ret
      exact ⟨by rw [HP.out]; rfl, hdr.out⟩
end Go.Proofs.YthhighljfjeooaaDoor
