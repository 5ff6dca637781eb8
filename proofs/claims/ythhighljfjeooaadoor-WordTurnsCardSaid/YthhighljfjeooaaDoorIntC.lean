/- cmp.Compare, slices.Compare, slices.Equal of ints. -/
import Derived.Test.YthhighljfjeooaaDoorIntB
import Derived.Test.YthhighljfjeooaaDoorWdC
namespace Go.Proofs.YthhighljfjeooaaDoor
open Go.RowKit WordM

/-- of two numbers -/
def cmpInt (x y : Int) : Int := if x < y then -1 else if y < x then 1 else 0
theorem cmpInt_lt {x y : Int} (h : x < y) : cmpInt x y = -1 := by unfold cmpInt; rw [if_pos h]
theorem cmpInt_gt {x y : Int} (h : y < x) : cmpInt x y = 1 := by unfold cmpInt; rw [if_neg (by omega), if_pos h]
theorem cmpInt_self (x : Int) : cmpInt x x = 0 := by unfold cmpInt; rw [if_neg (by omega), if_neg (by omega)]
theorem isNaN_any (x : Int) (w : World) : Calls Tryd.prog 92 #[.int .i64 x] w fun e w' => e = .returned (.bool false) ∧ w = w' := by
  go_enter Tryd.func92, Tryd.ntmps92
  go_wp2
  go_ret
  exact ⟨rfl, rfl⟩
theorem compare_any (x y : Int) (w : World) : Calls Tryd.prog 68 #[.int .i64 x, .int .i64 y] w fun e w' => e = .returned (.int .i64 (cmpInt x y)) ∧ w = w' := by
  rcases (by omega : x < y ∨ y < x ∨ x = y) with h | h | h
  · have hc := cmpInt_lt h
    have HC := Lib.hid hc
    clear hc
    go_enter Tryd.func68, Tryd.ntmps68
    go_wp2_with (go_at_call 92; refine (isNaN_any _ _).mono ?_; rintro e w' ⟨rfl, rfl⟩)
    go_ret
    exact ⟨by rw [HC.out]; rfl, rfl⟩
  · have hc := cmpInt_gt h
    have HC := Lib.hid hc
    have h' : ¬ x < y := by omega
    clear hc
    go_enter Tryd.func68, Tryd.ntmps68
    go_wp2_with (go_at_call 92; refine (isNaN_any _ _).mono ?_; rintro e w' ⟨rfl, rfl⟩)
    go_ret
    exact ⟨by rw [HC.out]; rfl, rfl⟩
  · subst h
    have hc := cmpInt_self x
    have HC := Lib.hid hc
    clear hc
    go_enter Tryd.func68, Tryd.ntmps68
    go_wp2_with (go_at_call 92; refine (isNaN_any _ _).mono ?_; rintro e w' ⟨rfl, rfl⟩)
    go_ret
    exact ⟨by rw [HC.out]; rfl, rfl⟩

theorem get_take_alike {a b : List Int} {j : Nat} (h : a.take j = b.take j) : ∀ i, i < j → a[i]? = b[i]? := fun i hi => by
  have e := congrArg (fun l : List Int => l[i]?) h
  simpa [List.getElem?_take, hi] using e
set_option maxHeartbeats 1000000 in
theorem scompare_any (p q : Option Addr) (n m c d : Nat) (l k : List Int) (w : World) (hn : n = l.length) (hm : m = l.length) (hlen : l.length = k.length) (h : IntV w.heap.size w p c l) (h' : IntV w.heap.size w q d k) :
    Calls Tryd.prog 75 #[.slice p n c, .slice q m d] w fun e w' => e = .returned (.int .i64 (lexC l k)) ∧ w = w' := by
  subst hm
  obtain ⟨L, hL⟩ : ∃ L, L = l.length := ⟨_, rfl⟩
  rw [← hL] at hn ⊢
  subst hn
  have hcap := h.cap
  have hle := h.le
  have hdle := h'.le
  have hdcap := h'.cap
  rw [← hL] at hle
  rw [← hlen, ← hL] at hdle
  unfold maxLen at hcap hdcap
  have H := Lib.hid (And.intro h (And.intro h' (And.intro hL hlen)))
  clear h h' hL hlen
  go_enter Tryd.func75, Tryd.ntmps75
  go_wp2_with fail
  go_loop [11] (fun v => ∃ j : Nat, j ≤ n ∧ v = .int .i64 j ∧ Hid (l.take j = k.take j)) (fun i => n - (intOf i).toNat)
  case atStart => exact ⟨0, Nat.zero_le _, rfl, by show _ = _; simp⟩
  case round =>
    obtain ⟨j, hj, rfl, ht⟩ := hrel
    by_cases hlt : j < n
    · have hnl := H.out.2.2.1
      have hkl := H.out.2.2.2
      have hne : l ≠ [] := by rintro rfl; simp at hnl; omega
      have hne' : k ≠ [] := by rintro rfl; simp at hkl; simp [hkl] at hnl; omega
      obtain ⟨b, off, rfl, hb, hc⟩ := H.out.1.cell hne
      obtain ⟨b', off', rfl, hb', hc'⟩ := H.out.2.1.cell hne'
      obtain ⟨x, hx⟩ := getI (l := l) (k := j) (by omega)
      obtain ⟨y, hy⟩ := getI (l := k) (k := j) (by omega)
      have h1 := hc j x hx
      have h2 := hc' j y hy
      have HX := Lib.hid (And.intro hx hy)
      clear hc hc' hx hy hne hne' hnl hkl
      rcases (by omega : x < y ∨ y < x ∨ x = y) with hxy | hxy | hxy
      · have hlx : lexC l k = -1 := lexC_lt j H.out.2.2.2 (get_take_alike ht.out) ⟨x, y, HX.out.1, HX.out.2, hxy⟩
        have hc := compare_any x y w
        rw [cmpInt_lt hxy] at hc
        have HC := Lib.hid (And.intro hc hlx)
        clear hc hlx
        go_wp2_with fail
        refine HC.out.1.mono ?_
        rintro e w' ⟨rfl, rfl⟩
        go_wp2_with fail
        go_ret
        exact ⟨by rw [HC.out.2]; rfl, rfl⟩
      · have hlx : lexC l k = 1 := lexC_gt j H.out.2.2.2 (get_take_alike ht.out) ⟨x, y, HX.out.1, HX.out.2, hxy⟩
        have hc := compare_any x y w
        rw [cmpInt_gt hxy] at hc
        have HC := Lib.hid (And.intro hc hlx)
        clear hc hlx
        go_wp2_with fail
        refine HC.out.1.mono ?_
        rintro e w' ⟨rfl, rfl⟩
        go_wp2_with fail
        go_ret
        exact ⟨by rw [HC.out.2]; rfl, rfl⟩
      · subst hxy
        have hc := compare_any x x w
        rw [cmpInt_self] at hc
        have HC := Lib.hid hc
        clear hc
        go_wp2_with fail
        refine HC.out.mono ?_
        rintro e w' ⟨rfl, rfl⟩
        go_wp2_with fail
        go_round
        case rel => exact ⟨j + 1, by omega, by go_num, take_alike HX.out.1 HX.out.2 ht.out⟩
        case measure => simp [intOf]; omega
    · obtain rfl : j = n := by omega
      have hlx : lexC l k = 0 := by
        have e := ht.out
        rw [H.out.2.2.1, List.take_length, H.out.2.2.2, List.take_length] at e
        rw [e, lexC_self]
      have HC := Lib.hid hlx
      clear hlx
      go_wp2_with fail
      go_ret
      exact ⟨by rw [HC.out]; rfl, rfl⟩
/-- slices.Equal: the same text as edenraw.Ints -/
theorem equal_q (p q : Option Addr) (n m c d : Nat) (l k : List Int) (w : World) (hn : n = l.length) (hm : m = k.length) (hlen : l.length = k.length) (h : IntV w.heap.size w p c l) (h' : IntV w.heap.size w q d k) :
    Calls Tryd.prog 69 #[.slice p n c, .slice q m d] w (Quiet (.bool (sameI l k)) w) := by
  subst hn hm
  have hcap := h.cap
  have hle := h.le
  have hdle := h'.le
  have hdcap := h'.cap
  unfold maxLen at hcap hdcap
  have H := Lib.hid (And.intro h h')
  clear h h'
  obtain ⟨n, hn⟩ : ∃ n, n = l.length := ⟨_, rfl⟩
  rw [← hlen, ← hn]
  rw [← hn] at hle
  rw [← hlen, ← hn] at hdle
  have HN := Lib.hid (And.intro hn hlen)
  clear hn hlen
  go_enter Tryd.func69, Tryd.ntmps69
  go_wp2_with fail
  go_loopw [13] (fun v wx => ∃ j : Nat, j ≤ n ∧ v = .int .i64 j ∧ Hid (∃ a, wx = w.drewN a) ∧ Hid (l.take j = k.take j)) (fun i _ => n - (intOf i).toNat)
  case atStart => exact ⟨0, Nat.zero_le _, rfl, ⟨0, rfl⟩, by show _ = _; simp⟩
  case round =>
    obtain ⟨j, hj, rfl, hbx, ht⟩ := hrel
    by_cases hlt : j < n
    · have hnl := HN.out.1
      have hkl := HN.out.2
      have hne : l ≠ [] := by rintro rfl; simp at hnl; omega
      have hne' : k ≠ [] := by rintro rfl; simp at hkl; simp [hkl] at hnl; omega
      have hbw : Below w.heap.size w wr := hbx.out.elim fun a e => e ▸ below_drewN (Below.refl _ _) a
      obtain ⟨b, off, rfl, hb, hc⟩ := (H.out.1.below hbw).cell hne
      obtain ⟨b', off', rfl, hb', hc'⟩ := (H.out.2.below hbw).cell hne'
      obtain ⟨x, hx⟩ := getI (l := l) (k := j) (by omega)
      obtain ⟨y, hy⟩ := getI (l := k) (k := j) (by omega)
      have h1 := hc j x hx
      have h2 := hc' j y hy
      have HX := Lib.hid (And.intro hx hy)
      clear hbw hc hc' hx hy hne hne' hnl hkl
      by_cases hxy : x = y
      · subst hxy
        go_wp2_with fail
        go_quiet (fail)
        go_wp2_with fail
        go_roundw
        case rel => exact ⟨j + 1, by omega, by go_num, quiet_more hbx.out _, take_alike HX.out.1 HX.out.2 ht.out⟩
        case measure => simp [intOf]; omega
      · have hne1 : ((x : Int) == (y : Int)) = false := by simpa using hxy
        have hs : sameI l k = false := sameI_ne (by rintro rfl; have := HX.out; rw [this.1] at this; exact hxy (Option.some.inj this.2))
        have HS := Lib.hid hs
        clear hs
        go_wp2_with fail
        go_quiet (fail)
        go_wp2_with fail
        go_ret
        exact ⟨by rw [HS.out]; rfl, quiet_more hbx.out _⟩
    · obtain rfl : j = n := by omega
      have hs : sameI l k = true := sameI_eq (by
        have e := ht.out
        have e1 := HN.out
        rwa [e1.1, List.take_length, e1.2, List.take_length] at e)
      have HS := Lib.hid hs
      clear hs
      go_wp2_with fail
      go_ret
      exact ⟨by rw [HS.out]; rfl, hbx.out⟩
end Go.Proofs.YthhighljfjeooaaDoor
