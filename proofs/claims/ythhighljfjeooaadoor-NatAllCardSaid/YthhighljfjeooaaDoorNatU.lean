/- Plain mathematics of decimal texts: which are numbers, which number, and back; no part of the program. -/
import Derived.Test.YthhighljfjeooaaDoorNatT
namespace Go.Proofs.YthhighljfjeooaaDoor.NatM
/-! ### decimal texts -/
def isDig (b : Nat) : Bool := decide (48 ≤ b) && decide (b ≤ 57)
/-- What is wrong with a text of digits: the place, and the error's number; none: nothing. -/
def parseBad (l : List Nat) : Option (Nat × Nat) :=
  if 1200 < l.length then some (0, 4) else if l.length = 0 then some (0, 6) else
    match l.findIdx? (fun b => !isDig b) with
    | some i => some (i, 6)
    | none => if 1 < l.length ∧ l[0]? = some 48 then some (0, 6) else none
def numOf (l : List Nat) : Nat := l.foldl (fun n b => n * 10 + (b - 48)) 0
theorem numOf_take {l : List Nat} {k b : Nat} (h : l[k]? = some b) : numOf (l.take (k + 1)) = numOf (l.take k) * 10 + (b - 48) := by
  unfold numOf
  rw [take_snoc (get_lt h), List.foldl_append, get_eq h]
  rfl
theorem numOf_nil : numOf [] = 0 := rfl
theorem numOf_lt (l : List Nat) (h : ∀ b ∈ l, isDig b = true) : numOf l < 10 ^ l.length := by
  have key : ∀ (l : List Nat) (a : Nat), (∀ b ∈ l, isDig b = true) → l.foldl (fun n b => n * 10 + (b - 48)) a < (a + 1) * 10 ^ l.length := by
    intro l
    induction l with
    | nil => intro a _; simp
    | cons b l ih =>
      intro a hl
      have hb : b - 48 ≤ 9 := by
        have := hl b List.mem_cons_self
        unfold isDig at this
        simp at this
        omega
      have h1 := ih (a * 10 + (b - 48)) (fun c hc => hl c (List.mem_cons_of_mem _ hc))
      rw [List.foldl_cons, List.length_cons, Nat.pow_succ]
      have h2 : (a * 10 + (b - 48) + 1) * 10 ^ l.length ≤ ((a + 1) * 10) * 10 ^ l.length := Nat.mul_le_mul_right _ (by omega)
      have h3 : (a + 1) * 10 * 10 ^ l.length = (a + 1) * (10 ^ l.length * 10) := by rw [Nat.mul_assoc, Nat.mul_comm 10]
      omega
  have := key l 0 h
  unfold numOf
  omega
/-- The digits of the number are the text's, where the text does not begin with 0. -/
theorem numOf_val (l : List Nat) : numOf l = valB 10 ((l.map (· - 48)).reverse) := by
  have key : ∀ (l : List Nat) (a : Nat), l.foldl (fun n b => n * 10 + (b - 48)) a = valB 10 ((l.map (· - 48)).reverse) + 10 ^ l.length * a := by
    intro l
    induction l with
    | nil => intro a; simp [valB]
    | cons b l ih =>
      intro a
      rw [List.foldl_cons, ih, List.map_cons, List.reverse_cons, valB_snoc, List.length_reverse, List.length_map, List.length_cons, Nat.pow_succ]
      rw [Nat.mul_add, Nat.mul_assoc, Nat.mul_comm a 10]
      omega
  have := key l 0
  unfold numOf
  omega
theorem findIdx_none {l : List Nat} {p : Nat → Bool} (h : l.findIdx? p = none) : ∀ b ∈ l, p b = false := by
  intro b hb
  have := List.findIdx?_eq_none_iff.1 h b hb
  simpa using this
theorem dec_read {l : List Nat} (hd : ∀ b ∈ l, isDig b = true) (hl : 0 < l.length) (hz : ¬ (1 < l.length ∧ l[0]? = some 48)) : (decL (numOf l)).map (48 + ·) = l := by
  have hback : ∀ m : List Nat, (∀ b ∈ m, isDig b = true) → (m.map (· - 48)).map (48 + ·) = m := by
    intro m
    induction m with
    | nil => intro _; rfl
    | cons b m ih =>
      intro h
      have hb := h b List.mem_cons_self
      unfold isDig at hb
      simp at hb
      rw [List.map_cons, List.map_cons, ih (fun c hc => h c (List.mem_cons_of_mem _ hc))]
      congr 1
      omega
  have hok : okB 10 ((l.map (· - 48)).reverse) := by
    intro x hx
    rw [List.mem_reverse, List.mem_map] at hx
    obtain ⟨b, hb, rfl⟩ := hx
    have := hd b hb
    unfold isDig at this
    simp at this
    omega
  by_cases h0 : numOf l = 0
  · have hl1 : l.length = 1 := by
      rcases Nat.lt_or_ge 1 l.length with h1 | h1
      · exfalso
        apply hz
        refine ⟨h1, ?_⟩
        rw [numOf_val] at h0
        match l, hl with
        | b :: t, _ =>
          rw [List.map_cons, List.reverse_cons, valB_snoc] at h0
          have hp : 0 < 10 ^ (t.map (· - 48)).reverse.length := Nat.pow_pos (by omega)
          have h2 : b - 48 = 0 := by
            rcases Nat.eq_zero_or_pos (b - 48) with h3 | h3
            · exact h3
            · have := Nat.mul_pos hp h3; omega
          have := hd b List.mem_cons_self
          unfold isDig at this
          simp at this
          have : b = 48 := by omega
          simp [this]
      · omega
    match l, hl1 with
    | [b], _ =>
      have hb := hd b List.mem_cons_self
      unfold isDig at hb
      simp at hb
      have h2 : b - 48 = 0 := by simpa [numOf] using h0
      rw [h0]
      simp [decL]
      omega
  · unfold decL
    rw [if_neg h0]
    have hn : nrm ((l.map (· - 48)).reverse) := by
      intro x hx
      rw [List.getLast?_reverse] at hx
      match l, hl with
      | b :: t, _ =>
        simp at hx
        rintro rfl
        have hb := hd b List.mem_cons_self
        unfold isDig at hb
        simp at hb
        have hb48 : b = 48 := by omega
        subst hb48
        have h1 : ¬ 1 < (48 :: t).length := fun h => hz ⟨h, rfl⟩
        have ht : t = [] := by
          apply List.eq_nil_of_length_eq_zero
          simp at h1
          simpa using h1
        subst ht
        exact h0 rfl
    have hu := digs_unique (B := 10) (by omega) hok hn (numOf_val l).symm
    rw [hu, List.reverse_reverse]
    exact hback l hd
/-- And the other way: the text of a number is read as the number. -/
theorem dec_back (n : Nat) : numOf ((decL n).map (48 + ·)) = n ∧ (∀ b ∈ (decL n).map (48 + ·), isDig b = true) ∧ 0 < ((decL n).map (48 + ·)).length ∧ ¬ (1 < ((decL n).map (48 + ·)).length ∧ ((decL n).map (48 + ·))[0]? = some 48) := by
  by_cases h0 : n = 0
  · subst h0
    refine ⟨by decide, by decide, by decide, by decide⟩
  · have hm : ((decL n).map (48 + ·)).map (· - 48) = decL n := by
      rw [List.map_map]
      have : ((fun x => x - 48) ∘ (fun x => 48 + x)) = (id : Nat → Nat) := by funext x; simp
      rw [this, List.map_id]
    have hd : decL n = (digs 10 n).reverse := by unfold decL; rw [if_neg h0]
    refine ⟨?_, ?_, ?_, ?_⟩
    · rw [numOf_val, hm, hd, List.reverse_reverse]
      exact valB_digs (by omega) n
    · intro b hb
      rw [List.mem_map] at hb
      obtain ⟨d, hdm, rfl⟩ := hb
      rw [hd, List.mem_reverse] at hdm
      have := digs_ok (B := 10) (by omega) n d hdm
      unfold isDig
      simp
      omega
    · rw [List.length_map, hd, List.length_reverse]
      exact List.length_pos_iff.2 (fun e => h0 ((digs_eq_nil (by omega)).1 e))
    · rintro ⟨_, h1⟩
      rw [hd, List.getElem?_map] at h1
      obtain ⟨d, hd1, hd2⟩ := Option.map_eq_some_iff.1 h1
      have hl : (digs 10 n).getLast? = some d := by
        rw [← List.head?_reverse, List.head?_eq_getElem?]
        exact hd1
      exact digs_nrm (by omega) n d hl (by omega)
end Go.Proofs.YthhighljfjeooaaDoor.NatM
