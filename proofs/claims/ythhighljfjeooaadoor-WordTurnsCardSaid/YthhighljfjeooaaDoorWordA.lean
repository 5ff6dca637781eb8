/- Package word by its contracts, first part: alphabet, Check. -/
import Derived.Test.YthhighljfjeooaaDoorIntC
import Derived.Test.YthhighljfjeooaaDoorErrNew
import Derived.Deep.DeepCutAuto
namespace Go.Proofs.YthhighljfjeooaaDoor
open Go.RowKit Go.Extern.Stop Go.Stop Go.Extern WordM

def wordOp : ByteArray := { data := #[119, 111, 114, 100] }
theorem alpha_yes (k : Int) (w : World) (h1 : 1 ≤ k) (h4 : k ≤ 4) : Calls Tryd.prog 76 #[.int .i64 k] w fun e w' => e = .returned (.bool true) ∧ w = w' := by
  go_enter Tryd.func76, Tryd.ntmps76
  go_wp2
  go_ret
  exact ⟨rfl, rfl⟩
theorem alpha_no (k : Int) (w : World) (h : k < 1 ∨ 4 < k) : Calls Tryd.prog 76 #[.int .i64 k] w fun e w' => e = .returned (.bool false) ∧ w = w' := by
  rcases h with h | h
  · have h1 : ¬ 1 ≤ k := by omega
    go_enter Tryd.func76, Tryd.ntmps76
    go_wp2
    go_ret
    exact ⟨rfl, rfl⟩
  · have h1 : 1 ≤ k := by omega
    have h2 : ¬ k ≤ 4 := by omega
    go_enter Tryd.func76, Tryd.ntmps76
    go_wp2
    go_ret
    exact ⟨rfl, rfl⟩

theorem check_ok (k : Int) (p : Option Addr) (n c : Nat) (l : List Int) (w : World) (hn : n = l.length) (h : IntV w.heap.size w p c l) (hc : chkW k l = none) :
    Calls Tryd.prog 32 #[.int .i64 k, .slice p n c] w (Tells .nilIface w) := by
  obtain ⟨k, rfl, h1, h4, hl, ho⟩ := chkW_none hc
  have hle := h.le
  have hcap := h.cap
  unfold maxLen at hcap
  have hn4 : n ≤ 4096 := by omega
  have hnc : n ≤ c := by omega
  have H := Lib.hid (And.intro h (And.intro ho hn))
  clear h hc hl ho hn hle
  go_enter Tryd.func32, Tryd.ntmps32
  go_wp2_with fail
  refine (alpha_yes _ _ (by omega) (by omega)).mono ?_
  rintro e w' ⟨rfl, rfl⟩
  go_wp2_with fail
  go_loop [17] (fun v => ∃ j : Nat, j ≤ n ∧ v = .int .i64 (j : Int)) (fun v => n - (intOf v).toNat)
  case atStart => exact ⟨0, Nat.zero_le _, rfl⟩
  case round =>
    obtain ⟨j, hj, rfl⟩ := hrel
    by_cases hlt : j < n
    · have hnl := H.out.2.2
      have hne : l ≠ [] := by rintro rfl; simp at hnl; omega
      obtain ⟨b, off, rfl, hb, hc⟩ := H.out.1.cell hne
      obtain ⟨x, hx⟩ := getI (l := l) (k := j) (by omega)
      have hcx := hc j x hx
      have hxo := H.out.2.1 x (List.mem_of_getElem? hx)
      have hx1 : ¬ x < 0 := by omega
      have hx2 : ¬ (k : Int) ≤ x := by omega
      clear hc hx hne hnl hxo
      go_wp2_with fail
      go_round
      case rel => exact ⟨j + 1, by omega, by go_num⟩
      case measure => simp [intOf]; omega
    · obtain rfl : j = n := by omega
      go_wp2_with fail
      go_ret
      exact ⟨rfl, Below.refl _ _⟩

theorem check_bad (k : Int) (p : Option Addr) (n c : Nat) (l : List Int) (w : World) (A : Nat → Addr) (hr : Roots w A) (hn : n = l.length) (h : IntV w.heap.size w p c l) (i m : Nat) (hc : chkW k l = some (i, m)) :
    Calls Tryd.prog 32 #[.int .i64 k, .slice p n c] w (Err1 w A wordOp i m) := by
  unfold chkW at hc
  have hle := h.le
  have hcap := h.cap
  unfold maxLen at hcap
  have hnc : n ≤ c := by omega
  split at hc
  · obtain ⟨rfl, rfl⟩ := Prod.mk.inj (Option.some.inj hc)
    have HR := Lib.hid hr
    clear h hn hle hr hc
    go_enter Tryd.func32, Tryd.ntmps32
    go_wp2_with fail
    refine (alpha_no _ _ (by omega)).mono ?_
    rintro e w' ⟨rfl, rfl⟩
    go_wp2_with fail
    refine (new_at wordOp 0 3 _ A HR.out (by omega)).mono ?_
    rintro e w1 ⟨b, rfl, hl1, hb1⟩
    have H := Lib.hid (And.intro hl1 hb1)
    clear hl1 hb1
    go_wp2_with fail
    go_ret
    exact ⟨_, rfl, H.out.1, H.out.2⟩
  · split at hc
    · obtain ⟨rfl, rfl⟩ := Prod.mk.inj (Option.some.inj hc)
      have HR := Lib.hid hr
      have hn4 : 4096 < n := by omega
      clear h hn hle hr hc
      go_enter Tryd.func32, Tryd.ntmps32
      go_wp2_with fail
      refine (alpha_yes _ _ (by omega) (by omega)).mono ?_
      rintro e w' ⟨rfl, rfl⟩
      go_wp2_with fail
      refine (new_at wordOp 0 4 _ A HR.out (by omega)).mono ?_
      rintro e w1 ⟨b, rfl, hl1, hb1⟩
      have H := Lib.hid (And.intro hl1 hb1)
      clear hl1 hb1
      go_wp2_with fail
      go_ret
      exact ⟨_, rfl, H.out.1, H.out.2⟩
    · obtain ⟨i', hi, he⟩ := Option.map_eq_some_iff.1 hc
      obtain ⟨rfl, rfl⟩ := Prod.mk.inj he
      obtain ⟨hil, hbad, hall⟩ := List.findIdx?_eq_some_iff_getElem.1 hi
      have hn4 : n ≤ 4096 := by omega
      have hin : i' < n := by omega
      have H := Lib.hid (And.intro h (And.intro hr (And.intro hn (And.intro hbad hall))))
      have hk1 : 1 ≤ k := by omega
      have hk4 : k ≤ 4 := by omega
      clear h hr hn hle hc hi he hbad hall
      go_enter Tryd.func32, Tryd.ntmps32
      go_wp2_with fail
      refine (alpha_yes _ _ hk1 hk4).mono ?_
      rintro e w' ⟨rfl, rfl⟩
      go_wp2_with fail
      go_loop [17] (fun v => ∃ j : Nat, j ≤ i' ∧ v = .int .i64 (j : Int)) (fun v => n - (intOf v).toNat)
      case atStart => exact ⟨0, Nat.zero_le _, rfl⟩
      case round =>
        obtain ⟨j, hj, rfl⟩ := hrel
        have hne : l ≠ [] := by rintro rfl; simp at hil
        obtain ⟨b, off, rfl, hb, hc⟩ := H.out.1.cell hne
        by_cases hlt : j < i'
        · have hx : l[j]? = some l[j] := List.getElem?_eq_getElem (by omega)
          have hg := H.out.2.2.2.2 j hlt
          obtain ⟨x, hxx⟩ : ∃ x, l[j] = x := ⟨_, rfl⟩
          rw [hxx] at hx hg
          have hcx := hc j x hx
          unfold badAt at hg
          simp at hg
          have hx1 : ¬ x < 0 := by omega
          have hx2 : ¬ k ≤ x := by omega
          clear hc hx hne hg hxx
          go_wp2_with fail
          go_round
          case rel => exact ⟨j + 1, by omega, by go_num⟩
          case measure => simp [intOf]; omega
        · obtain rfl : j = i' := by omega
          have hx : l[j]? = some l[j] := List.getElem?_eq_getElem (by omega)
          have hg := H.out.2.2.2.1
          obtain ⟨x, hxx⟩ : ∃ x, l[j] = x := ⟨_, rfl⟩
          rw [hxx] at hx hg
          have hcx := hc j x hx
          unfold badAt at hg
          simp at hg
          clear hc hx hne hxx
          rcases Int.lt_or_le x 0 with hx1 | hx1
          · clear hg
            go_wp2_with fail
            refine (new_at wordOp j 2 _ A H.out.2.1 (by omega)).mono ?_
            rintro e w1 ⟨b, rfl, hl1, hb1⟩
            have H := Lib.hid (And.intro hl1 hb1)
            clear hl1 hb1
            go_wp2_with fail
            go_ret
            exact ⟨_, rfl, H.out.1, H.out.2⟩
          · have hx2 : k ≤ x := by omega
            have hx3 : ¬ x < 0 := by omega
            clear hg
            go_wp2_with fail
            refine (new_at wordOp j 2 _ A H.out.2.1 (by omega)).mono ?_
            rintro e w1 ⟨b, rfl, hl1, hb1⟩
            have H := Lib.hid (And.intro hl1 hb1)
            clear hl1 hb1
            go_wp2_with fail
            go_ret
            exact ⟨_, rfl, H.out.1, H.out.2⟩
end Go.Proofs.YthhighljfjeooaaDoor
