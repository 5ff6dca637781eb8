/- Plain mathematics of words: the least turn. -/
import Derived.Test.YthhighljfjeooaaDoorWdA
namespace Go.Proofs.YthhighljfjeooaaDoor.WordM
/-! ### the least turn -/
/-- turned by l it is behind no other turn, and ahead of those by less -/
def IsLeast (w : List Int) (l : Nat) : Prop := l < w.length ∧ ∀ s, s < w.length → lexC (rot w l) (rot w s) ≤ 0 ∧ (s < l → lexC (rot w l) (rot w s) = -1)
theorem rot_same (w : List Int) (s t : Nat) : (rot w s).length = (rot w t).length := by rw [rot_length, rot_length]
theorem isLeast_unique {w : List Int} {l m : Nat} (h : IsLeast w l) (k : IsLeast w m) : l = m := by
  have swap := lexC_swap (rot w l) (rot w m)
  rcases Nat.lt_trichotomy l m with c | c | c
  · have h1 := (h.2 m k.1).1
    have h2 := (k.2 l h.1).2 c
    rw [swap] at h2
    -- lexC l m = 1 but <= 0
    omega
  · exact c
  · have h1 := (k.2 l h.1).1
    have h2 := (h.2 m k.1).2 c
    omega
/-- the reference's way: the best so far -/
def BestTo (w : List Int) (n b : Nat) : Prop := b < n ∧ ∀ s, s < n → lexC (rot w b) (rot w s) ≤ 0 ∧ (s < b → lexC (rot w b) (rot w s) = -1)
theorem best_one (w : List Int) : BestTo w 1 0 := ⟨by omega, fun s hs => ⟨by rw [show s = 0 by omega, lexC_self]; omega, fun h => by omega⟩⟩
theorem best_keep {w : List Int} {n b : Nat} (h : BestTo w n b) (hc : 0 ≤ lexC (rot w n) (rot w b)) : BestTo w (n + 1) b := by
  refine ⟨by have := h.1; omega, fun s hs => ?_⟩
  rcases (by omega : s < n ∨ s = n) with k | rfl
  · exact h.2 s k
  · rw [lexC_swap (rot w s) (rot w b)]
    exact ⟨by omega, fun k => by have := h.1; omega⟩
theorem best_turn {w : List Int} {n b : Nat} (h : BestTo w n b) (hc : lexC (rot w n) (rot w b) < 0) : BestTo w (n + 1) n := by
  have hm : ∀ s, s < n → lexC (rot w n) (rot w s) = -1 := fun s hs => by
    have h1 := (h.2 s hs).1
    have h2 : lexC (rot w n) (rot w s) ≤ 0 := lexC_trans (rot_same w n b) (rot_same w b s) (by omega) h1
    rcases lexC_cases (rot w n) (rot w s) with k | k | k
    · exact k
    · have e := lexC_eq (rot_same w n s) k
      rw [← e, lexC_swap (rot w n) (rot w b)] at h1
      omega
    · omega
  refine ⟨by omega, fun s hs => ?_⟩
  rcases (by omega : s < n ∨ s = n) with k | rfl
  · exact ⟨by rw [hm s k]; omega, fun _ => hm s k⟩
  · exact ⟨by rw [lexC_self]; omega, fun k => by omega⟩
theorem best_all {w : List Int} {b : Nat} (h : BestTo w w.length b) : IsLeast w b := h
theorem least_exists {w : List Int} (h : 0 < w.length) : ∃ l, IsLeast w l := by
  have : ∀ n, 1 ≤ n → ∃ b, BestTo w n b := by
    intro n
    induction n with
    | zero => intro h; omega
    | succ n ih =>
      intro _
      rcases Nat.eq_zero_or_pos n with rfl | k
      · exact ⟨0, best_one w⟩
      · obtain ⟨b, hb⟩ := ih k
        rcases Int.lt_or_le (lexC (rot w n) (rot w b)) 0 with c | c
        · exact ⟨n, best_turn hb c⟩
        · exact ⟨b, best_keep hb c⟩
  exact this _ h
/-- ruled out: another turn is ahead of it -/
def Out (w : List Int) (s : Nat) : Prop := ∃ t, t < w.length ∧ lexC (rot w t) (rot w s) = -1
theorem out_not {w : List Int} {l : Nat} (h : IsLeast w l) (k : Out w l) : False := by
  obtain ⟨t, ht, e⟩ := k
  have h1 := (h.2 t ht).1
  rw [lexC_swap (rot w t) (rot w l), e] at h1
  omega
/-- the two turns by s + d and t + d, where those by s and t are alike up to k and then part -/
theorem less_shift {w : List Int} {s t k d : Nat} (h0 : 0 < w.length) (hk : k < w.length) (hd : d ≤ k) (he : ∀ i, i < k → F w (s + i) = F w (t + i)) (hlt : F w (s + k) < F w (t + k)) : Out w (t + d) := by
  refine ⟨(s + d) % w.length, Nat.mod_lt _ h0, ?_⟩
  rw [rot_mod]
  refine lexC_lt (k - d) (rot_same w _ _) (fun i hi => ?_) ⟨F w (s + k), F w (t + k), ?_, ?_, hlt⟩
  · rw [rot_get (by omega), rot_get (by omega)]
    have := he (i + d) (by omega)
    rw [show i + (s + d) = s + (i + d) by omega, show i + (t + d) = t + (i + d) by omega, this]
  · rw [rot_get (by omega)]; congr 2; omega
  · rw [rot_get (by omega)]; congr 2; omega
/-- the search's state: all below rival but best are ruled out; same symbols were alike -/
structure Duel (w : List Int) (best rival same : Nat) : Prop where
  lt : best < rival
  out : ∀ s, s < rival → s < w.length → s ≠ best → Out w s
  like : ∀ i, i < same → F w (best + i) = F w (rival + i)
theorem duel_start (w : List Int) : Duel w 0 1 0 := ⟨by omega, fun s h _ k => by omega, fun i h => by omega⟩
theorem duel_same {w : List Int} {best rival same : Nat} (h : Duel w best rival same) (he : F w (best + same) = F w (rival + same)) : Duel w best rival (same + 1) :=
  ⟨h.lt, h.out, fun i hi => by
    rcases (by omega : i < same ∨ i = same) with k | rfl
    · exact h.like i k
    · exact he⟩
theorem duel_less {w : List Int} {best rival same : Nat} (h : Duel w best rival same) (hs : same < w.length) (hlt : F w (best + same) < F w (rival + same)) : Duel w best (rival + same + 1) 0 :=
  ⟨by have := h.lt; omega, fun s hs1 hs2 hs3 => by
    rcases Nat.lt_or_ge s rival with k | k
    · exact h.out s k hs2 hs3
    · have := less_shift (d := s - rival) (by omega) hs (by omega) h.like hlt
      rwa [show rival + (s - rival) = s by omega] at this, fun i hi => by omega⟩
theorem duel_more {w : List Int} {best rival same : Nat} (h : Duel w best rival same) (hs : same < w.length) (hlt : F w (rival + same) < F w (best + same)) : Duel w rival (max (best + same) rival + 1) 0 :=
  ⟨by have := Nat.le_max_right (best + same) rival; omega, fun s hs1 hs2 hs3 => by
    have hmx : s ≤ best + same ∨ s ≤ rival := by
      rcases Nat.le_total (best + same) rival with c | c
      · rw [Nat.max_eq_right c] at hs1; omega
      · rw [Nat.max_eq_left c] at hs1; omega
    have hbr := h.lt
    rcases (by omega : (best ≤ s ∧ s ≤ best + same) ∨ (s < rival ∧ s ≠ best) ∨ s = rival) with k | k | k
    · have := less_shift (d := s - best) (by omega) hs (by omega) (fun i hi => (h.like i hi).symm) hlt
      rwa [show best + (s - best) = s by omega] at this
    · exact h.out s k.1 hs2 k.2
    · omega, fun i hi => by omega⟩
theorem duel_done {w : List Int} {best rival same l : Nat} (h : Duel w best rival same) (hr : w.length ≤ rival) (hl : IsLeast w l) : best = l := by
  apply Decidable.byContradiction
  intro e
  exact out_not hl (h.out l (by have := hl.1; omega) hl.1 (by omega))
theorem duel_alike {w : List Int} {best rival same l : Nat} (h : Duel w best rival same) (hs : w.length ≤ same) (hl : IsLeast w l) : best = l := by
  apply Decidable.byContradiction
  intro e
  rcases Nat.lt_or_ge l rival with k | k
  · exact out_not hl (h.out l k hl.1 (by omega))
  · -- the turn by l less (rival - best) is the same
    have hlt := h.lt
    have e1 : rot w best = rot w rival := by
      apply ext_F (rot_same _ _ _)
      intro i hi
      rw [rot_length] at hi
      rw [F_rot, F_rot]
      have := h.like i (by omega)
      rwa [Nat.add_comm best, Nat.add_comm rival] at this
    have e2 : rot w (l - (rival - best)) = rot w l := by
      have := congrArg (fun x => rot x (l - rival)) e1
      simp only [rot_rot] at this
      rw [show best + (l - rival) = l - (rival - best) by omega, show rival + (l - rival) = l by omega] at this
      exact this
    have h1 := (hl.2 (l - (rival - best)) (by have := hl.1; omega)).2 (by omega)
    rw [e2, lexC_self] at h1
    omega
/-- the least turn of a turned word is the least turn -/
theorem least_rot {w : List Int} {l m t : Nat} (h : IsLeast w l) (k : IsLeast (rot w t) m) : rot (rot w t) m = rot w l := by
  have hw : 0 < w.length := by have := h.1; omega
  have h1 : lexC (rot (rot w t) m) (rot w l) ≤ 0 := by
    -- l = t + s around
    have hs : ∃ s, s < w.length ∧ rot (rot w t) s = rot w l := by
      refine ⟨(l + t * (w.length - 1)) % w.length, Nat.mod_lt _ hw, ?_⟩
      have e := rot_mod (rot w t) (l + t * (w.length - 1))
      rw [rot_length] at e
      rw [e, rot_rot, ← rot_mod w (t + _)]
      have e1 : t + (l + t * (w.length - 1)) = l + t * w.length := by
        obtain ⟨j, hj⟩ : ∃ j, w.length = j + 1 := ⟨w.length - 1, by omega⟩
        rw [hj, Nat.add_sub_cancel, Nat.mul_succ]; omega
      rw [e1, Nat.add_mul_mod_self_right, rot_mod]
    obtain ⟨s, hs1, hs2⟩ := hs
    rw [← hs2]
    exact (k.2 s (by rw [rot_length]; exact hs1)).1
  have h2 : lexC (rot w l) (rot (rot w t) m) ≤ 0 := by
    rw [rot_rot, ← rot_mod w (t + m)]
    exact (h.2 _ (Nat.mod_lt _ hw)).1
  rw [lexC_swap (rot (rot w t) m) (rot w l)] at h2
  exact lexC_eq (by simp [rot_length]) (by omega)
end Go.Proofs.YthhighljfjeooaaDoor.WordM
