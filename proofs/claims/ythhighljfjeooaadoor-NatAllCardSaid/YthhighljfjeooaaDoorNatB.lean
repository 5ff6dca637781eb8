/- Package nat by its contracts, second part: Cmp, Add32, raise, Sum, Add. -/
import Derived.Test.YthhighljfjeooaaDoorNatA
import Derived.Deep.DeepCutAuto
import Derived.Deep.RegionWith
namespace Go.Proofs.YthhighljfjeooaaDoor
open Go.RowKit NatM

theorem lt_of_drop {a b : List Nat} {i x y : Nat} (ha : ok32 a) (hx : a[i]? = some x) (hy : b[i]? = some y) (hd : a.drop (i + 1) = b.drop (i + 1)) (hlt : x < y) : V32 a < V32 b := lt_atq (by omega) ha hx hy hd hlt
theorem cmp_len {m n : Nat} (h : (D32 m).length < (D32 n).length) : m < n := digs_length_lt (by omega) h

/-- of two numbers -/
def cmpV (a b : List Nat) : Value := .int .i64 (cmpN (V32 a) (V32 b))

set_option maxHeartbeats 2000000 in
theorem cmp_any (p q : Option Addr) (c d : Nat) (l m : List Nat) (w : World) (h : NatV w.heap.size w p c l) (k : NatV w.heap.size w q d m) :
    Calls Tryd.prog 19 #[.slice p l.length c, .slice q m.length d] w (Tells (cmpV l m) w) := by
  have H := Lib.hid (And.intro h k)
  have HT := Lib.hid (And.intro h.trim k.trim)
  have hcap := HT.out.1.cap
  have hdcap := HT.out.2.cap
  have hle := HT.out.1.le
  have hdle := HT.out.2.le
  have hva : V32 (D32 (V32 l)) = V32 l := V32_D32 _
  have hvb : V32 (D32 (V32 m)) = V32 m := V32_D32 _
  unfold maxLen at hcap hdcap
  clear h k
  go_enter Tryd.func19, Tryd.ntmps19
  go_wp2_with fail
  refine (trim_any p c l _ H.out.1).mono ?_
  rintro e w' ⟨rfl, rfl⟩
  go_wp2_with fail
  refine (trim_any q d m _ H.out.2).mono ?_
  rintro e w' ⟨rfl, rfl⟩
  obtain ⟨a, ha⟩ : ∃ a, D32 (V32 l) = a := ⟨_, rfl⟩
  obtain ⟨b, hb⟩ : ∃ b, D32 (V32 m) = b := ⟨_, rfl⟩
  rw [ha] at HT hle hva ⊢
  rw [hb] at HT hdle hvb ⊢
  have hgt : b.length < a.length → V32 m < V32 l := fun h => cmp_len (by rw [ha, hb]; exact h)
  have hlt : a.length < b.length → V32 l < V32 m := fun h => cmp_len (by rw [ha, hb]; exact h)
  have HV := Lib.hid (And.intro hva hvb)
  have HL := Lib.hid (And.intro hgt hlt)
  clear ha hb hva hvb hgt hlt
  rcases Nat.lt_trichotomy a.length b.length with hl | hl | hl
  · have hc : cmpV l m = .int .i64 (-1) := by unfold cmpV; rw [cmp_lt (HL.out.2 hl)]
    have HC := Lib.hid hc
    clear hc
    have h1 : ((a.length : Int) == (b.length : Int)) = false := by simp; omega
    have h2 : decide (a.length < b.length) = true := by simp; omega
    go_wp2_with (go_at_call 66; refine (sign_any _ _).mono ?_; rintro e w' ⟨rfl, rfl⟩)
    go_ret
    exact ⟨by rw [HC.out]; rfl, Below.refl _ _⟩
  · have HLL := Lib.hid hl
    obtain ⟨n, hn⟩ : ∃ n, n = a.length := ⟨_, rfl⟩
    have hn2 : b.length = n := by omega
    rw [← hn, hn2]
    rw [← hn] at hle
    rw [hn2] at hdle
    have HN := Lib.hid (And.intro hn hn2)
    clear hl hn hn2
    go_wp2_with fail
    go_loopw [5] (fun v wx => ∃ k : Nat, k ≤ n ∧ v = .int .i64 ((k : Int) - 1) ∧ Below w.heap.size w wx ∧ Hid (a.drop k = b.drop k)) (fun v _ => (intOf v + 1).toNat)
    case atStart => exact ⟨n, Nat.le_refl _, rfl, Below.refl _ _, by rw [HN.out.1]; show _ = _; rw [List.drop_length, List.drop_of_length_le]; have := HN.out; omega⟩
    case round =>
      obtain ⟨k, hk, rfl, hbx, hdr⟩ := hrel
      rcases Nat.eq_zero_or_pos k with rfl | hk0
      · have hc : cmpV l m = .int .i64 0 := by
          have e : a = b := by have := hdr.out; simpa using this
          unfold cmpV
          rw [← HV.out.1, ← HV.out.2, e, cmp_eq]
        have HC := Lib.hid hc
        clear hc
        go_wp2_with fail
        go_ret
        exact ⟨by rw [HC.out]; rfl, hbx⟩
      · obtain ⟨j, rfl⟩ : ∃ j, k = j + 1 := ⟨k - 1, by omega⟩
        have e1 : (((j + 1 : Nat) : Int) - 1) = (j : Int) := by omega
        rw [e1]
        have hna : n = a.length := HN.out.1
        have hnb : b.length = n := HN.out.2
        have hne : a ≠ [] := List.length_pos_iff.1 (by omega)
        have hneb : b ≠ [] := List.length_pos_iff.1 (by omega)
        obtain ⟨ba, off, rfl, hba, hca⟩ := (HT.out.1.below hbx).cell hne
        obtain ⟨bb, off', rfl, hbb, hcb⟩ := (HT.out.2.below hbx).cell hneb
        obtain ⟨x, hx⟩ := some_get (l := a) (k := j) (by omega)
        obtain ⟨y, hy⟩ := some_get (l := b) (k := j) (by omega)
        have h1 := hca j x hx
        have h2 := hcb j y hy
        have HX := Lib.hid (And.intro hx hy)
        clear hca hcb hx hy hne hneb hna hnb e1
        by_cases hxy : x = y
        · subst hxy
          go_wp2_with fail
          go_quiet (fail)
          go_wp2_with fail
          go_roundw
          case rel => exact ⟨j, by omega, rfl, below_drewN hbx _, drop_eqq HX.out.1 HX.out.2 hdr.out⟩
          case measure => simp [intOf]
        · have hne1 : ((x : Int) == (y : Int)) = false := by simp; omega
          by_cases hlt : x < y
          · have hd : decide (x < y) = true := by simp; omega
            have hc : cmpV l m = .int .i64 (-1) := by
              unfold cmpV
              rw [← HV.out.1, ← HV.out.2, cmp_lt (lt_of_drop HT.out.1.ok HX.out.1 HX.out.2 hdr.out hlt)]
            have HC := Lib.hid hc
            clear hc
            go_wp2_with fail
            go_quiet (fail)
            go_wp2_with fail
            go_quiet ((go_at_call 66; first | exact quiet_add_left (sign_any _ _) | exact quiet_left (sign_any _ _)))
            go_wp2_with fail
            go_ret
            exact ⟨by rw [HC.out]; rfl, by first | exact below_drewN hbx _ | exact below_drewN (below_drewN hbx _) _⟩
          · have hgt : y < x := by omega
            have hd : decide (x < y) = false := by simp; omega
            have hc : cmpV l m = .int .i64 1 := by
              unfold cmpV
              rw [← HV.out.1, ← HV.out.2, cmp_gt (lt_of_drop HT.out.2.ok HX.out.2 HX.out.1 hdr.out.symm hgt)]
            have HC := Lib.hid hc
            clear hc
            go_wp2_with fail
            go_quiet (fail)
            go_wp2_with fail
            go_quiet ((go_at_call 66; first | exact quiet_add_left (sign_any _ _) | exact quiet_left (sign_any _ _)))
            go_wp2_with fail
            go_ret
            exact ⟨by rw [HC.out]; rfl, by first | exact below_drewN hbx _ | exact below_drewN (below_drewN hbx _) _⟩
  · have hc : cmpV l m = .int .i64 1 := by unfold cmpV; rw [cmp_gt (HL.out.1 hl)]
    have HC := Lib.hid hc
    clear hc
    have h1 : ((a.length : Int) == (b.length : Int)) = false := by simp; omega
    have h2 : decide (a.length < b.length) = false := by simp; omega
    go_wp2_with (go_at_call 66; refine (sign_any _ _).mono ?_; rintro e w' ⟨rfl, rfl⟩)
    go_ret
    exact ⟨by rw [HC.out]; rfl, Below.refl _ _⟩

theorem add32_any (x y c : Nat) (w : World) (hx : x < 4294967296) (hy : y < 4294967296) (hc : c ≤ 1) :
    Calls Tryd.prog 103 #[.int .u32 (x : Int), .int .u32 (y : Int), .int .u32 (c : Int)] w fun e w' => e = .returned (.tuple #[.int .u32 (((x + y + c) % 4294967296 : Nat) : Int), .int .u32 (((x + y + c) / 4294967296 : Nat) : Int)]) ∧ w = w' := by
  go_enter Tryd.func103, Tryd.ntmps103
  go_wp2
  go_ret2
  exact ⟨rfl, rfl⟩
end Go.Proofs.YthhighljfjeooaaDoor
