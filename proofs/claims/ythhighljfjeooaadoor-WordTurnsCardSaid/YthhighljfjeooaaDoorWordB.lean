/- Package word by its contracts, second part: Cmp, Back, Turn. -/
import Derived.Test.YthhighljfjeooaaDoorIntC
import Derived.Test.YthhighljfjeooaaDoorIntD
import Derived.Deep.RegionWith
import Derived.Deep.DeepCutAuto
namespace Go.Proofs.YthhighljfjeooaaDoor
open Go.RowKit WordM

theorem cmp_w (p q : Option Addr) (n m c d : Nat) (l k : List Int) (w : World) (hn : n = l.length) (hm : m = k.length) (h : IntV w.heap.size w p c l) (h' : IntV w.heap.size w q d k) :
    Calls Tryd.prog 31 #[.slice p n c, .slice q m d] w fun e w' => e = .returned (.int .i64 (cmpW l k)) ∧ w = w' := by
  by_cases hlen : l.length = k.length
  · have hc := scompare_any p q n m c d l k w hn (hm.trans hlen.symm) hlen h h'
    have hnm : n = m := by omega
    subst hnm
    have hw : cmpW l k = lexC l k := cmpW_len hlen
    have H := Lib.hid (And.intro hc hw)
    clear hc hw h h' hlen hn hm
    go_enter Tryd.func31, Tryd.ntmps31
    go_wp2_with fail
    refine H.out.1.mono ?_
    rintro e w' ⟨rfl, rfl⟩
    go_wp2_with fail
    go_ret
    exact ⟨by rw [H.out.2]; rfl, rfl⟩
  · have hc := compare_any (n : Int) (m : Int) w
    have hw : cmpW l k = cmpInt (n : Int) (m : Int) := by
      unfold cmpW cmpInt
      subst hn hm
      by_cases h1 : l.length < k.length
      · rw [if_pos h1, if_pos (by omega)]
      · rw [if_neg h1, if_pos (by omega), if_neg (by omega), if_pos (by omega)]
    have hne : ((n : Int) == (m : Int)) = false := by rw [beq_eq_false_iff_ne]; omega
    have hne2 : ((n : Int) != (m : Int)) = true := by rw [bne_iff_ne]; omega
    have H := Lib.hid (And.intro hc hw)
    clear hc hw h h' hlen hn hm
    go_enter Tryd.func31, Tryd.ntmps31
    go_wp2_with fail
    refine H.out.1.mono ?_
    rintro e w' ⟨rfl, rfl⟩
    go_wp2_with fail
    go_ret
    exact ⟨by rw [H.out.2]; rfl, rfl⟩

theorem IntPost.under {w W : World} {l : List Int} {e : Ending} {w' : World} (hb : Below w.heap.size w W) (h : IntPost W l e w') : IntPost w l e w' := by
  obtain ⟨p, c, he, ho, hb'⟩ := h
  exact ⟨p, c, he, ho.base hb.size, hb.trans (hb'.mono hb.size)⟩
theorem reverseI_none (w : World) : Calls Tryd.prog 73 #[.slice none 0 0] w fun e w' => e = .returned (.tuple #[]) ∧ w = w' := by
  go_enter Tryd.func73, Tryd.ntmps73
  go_wp2_with fail
  go_loop [2, 3] (fun v2 v3 => v2 = .int .i64 0 ∧ v3 = .int .i64 (-1)) (fun _ _ => 0)
  case atStart => exact ⟨rfl, rfl⟩
  case round =>
    obtain ⟨rfl, rfl⟩ := hrel
    go_wp2_with fail
    go_end0
    exact ⟨rfl, rfl⟩
set_option maxHeartbeats 1000000 in
theorem back_any (p : Option Addr) (n c : Nat) (l : List Int) (w : World) (hn : n = l.length) (h : IntV w.heap.size w p c l) (hl : l.length ≤ 17592186044000) :
    Calls Tryd.prog 29 #[.slice p n c] w (IntPost w l.reverse) := by
  subst hn
  have hc := cloneI_any p c l w h hl
  have HC := Lib.hid hc
  clear hc h
  go_enter Tryd.func29, Tryd.ntmps29
  go_wp2_with fail
  refine HC.out.mono ?_
  rintro e w1 ⟨p1, c1, rfl, ho1, hb1⟩
  rcases own_shape ho1 with ⟨hv, h0, _⟩ | ⟨g, cap, hv, hg, hglt, hcc, hm, hcl, _⟩
  · obtain ⟨rfl, hl0, rfl⟩ := by simpa using hv
    subst hl0
    have HB := Lib.hid hb1
    clear ho1 hb1 h0 hv
    go_wp2_with fail
    refine (reverseI_none _).mono ?_
    rintro e w' ⟨rfl, rfl⟩
    go_wp2_with fail
    go_ret
    exact ⟨none, 0, rfl, IntO.nothing _ _, HB.out⟩
  · obtain ⟨rfl, rfl⟩ : p1 = some ⟨g, 0, none⟩ ∧ c1 = cap := by simpa using hv
    have HB := Lib.hid (And.intro hb1 hg)
    have hr := reverseI_any w.heap.size g c1 l w1 (by omega) ho1
    clear ho1 hb1 hg hcl hv
    go_wp2_with fail
    refine hr.mono ?_
    rintro e w2 ⟨rfl, ho2, hgr⟩
    have hb2 : Below w.heap.size w w2 := HB.out.1.grown hgr HB.out.1.size (fun j hj => by obtain rfl := Option.some.inj hj; exact HB.out.2)
    have HO := Lib.hid (And.intro ho2 hb2)
    clear ho2 hgr hb2 hr
    go_wp2_with fail
    go_ret
    exact ⟨some ⟨g, 0, none⟩, c1, by rw [List.length_reverse]; rfl, by unfold IntO; rw [List.length_reverse]; exact HO.out.1, HO.out.2⟩

/-- how far a turn goes -/
def turnN (l : List Int) (z : Int) : Nat := (z % (l.length : Int)).toNat
def turnW (l : List Int) (z : Int) : List Int := rot l (turnN l z)
theorem turnW_length (l : List Int) (z : Int) : (turnW l z).length = l.length := rot_length _ _
set_option maxRecDepth 100000 in
set_option maxHeartbeats 4000000 in
theorem turn_any (p : Option Addr) (n c : Nat) (l : List Int) (z : Int) (w : World) (hn : n = l.length) (h : IntV w.heap.size w p c l) (hl : l.length ≤ 17592186044000) :
    Calls Tryd.prog 30 #[.slice p n c, .int .i64 z] w (IntPost w (turnW l z)) := by
  have hle := h.le
  have hcap := h.cap
  unfold maxLen at hcap
  rcases Nat.eq_zero_or_pos n with h0 | h0
  · have hl0 : l = [] := List.eq_nil_of_length_eq_zero (by omega)
    subst hl0 h0
    clear h hle
    clear hn hl
    go_enter Tryd.func30, Tryd.ntmps30
    go_wp2_with fail
    go_ret
    exact ⟨none, 0, rfl, IntO.nothing _ _, Below.refl _ _⟩
  · obtain ⟨b, off, rfl, hb, hc⟩ := h.cell (by rintro rfl; simp at hn; omega)
    obtain ⟨t, ht⟩ : ∃ t, turnN l z = t := ⟨_, rfl⟩
    have htn : t < n := by
      rw [← ht, hn]
      unfold turnN
      have h1 := Int.emod_lt_of_pos z (show (0 : Int) < (l.length : Int) by omega)
      have h2 := Int.emod_nonneg z (show (l.length : Int) ≠ 0 by omega)
      omega
    have htz : z % (n : Int) = (t : Int) := by
      rw [← ht, hn]
      unfold turnN
      have h2 := Int.emod_nonneg z (show (l.length : Int) ≠ 0 by omega)
      omega
    have hrot : rot l t = l.drop t ++ l.take t := (rot_drop (by omega)).symm
    have hnz : ((n : Int) == 0) = false := by rw [beq_eq_false_iff_ne]; omega
    have hnc : n ≤ c := by omega
    have hnl : n ≤ 17592186044000 := by omega
    obtain ⟨r, hr⟩ : ∃ r, z.tmod (n : Int) = r := ⟨_, rfl⟩
    have hrt : (r < 0 ∧ r + (n : Int) = (t : Int)) ∨ (¬ r < 0 ∧ r = (t : Int)) := by
      have e := @Int.tmod_eq_emod z (n : Int)
      have hlo : -(n : Int) < r := by rw [← hr]; exact Int.lt_tmod_of_pos z (by omega)
      rw [hr, htz] at e
      split at e <;> omega
    have hsum : ∀ W : World, Below w.heap.size w W → w.heap.size < W.heap.size → (∀ j, W.cell? ⟨w.heap.size, j, none⟩ = (#[.slice (some ⟨b, off + t, none⟩) (n - t) (c - t), .slice (some ⟨b, off, none⟩) t c] : Array Value)[j]?) → Calls Tryd.prog 74 #[.slice (some ⟨w.heap.size, 0, none⟩) 2 2] W (IntPost w (turnW l z)) := fun W hbW hs hcs => by
      have e : turnW l z = flat [(some ⟨b, off + t, none⟩, c - t, l.drop t), (some ⟨b, off, none⟩, c, l.take t)] := by
        unfold turnW flat
        rw [ht, hrot]
        simp
      rw [e]
      have hd1 : (l.drop t).length = n - t := by rw [List.length_drop, hn]
      have hd2 : (l.take t).length = t := by rw [List.length_take]; omega
      refine (concatI _ 2 2 [(some ⟨b, off + t, none⟩, c - t, l.drop t), (some ⟨b, off, none⟩, c, l.take t)] _ rfl ⟨Nat.le_refl _, by unfold maxLen; omega, ?_, fun _ => ⟨_, 0, rfl, hs, ?_⟩⟩ ?_).mono fun e w' h => IntPost.under hbW h
      · have hv := h.next hbW
        intro x hx
        rcases List.mem_cons.1 hx with rfl | hx
        · exact hv.drop t (by omega)
        · obtain rfl := List.mem_singleton.1 hx
          exact hv.take t
      · intro j x hx
        rw [Nat.zero_add, hcs]
        match j, hx with
        | 0, hx => obtain rfl := Option.some.inj hx; simp [Sl.val, hd1]
        | 1, hx => obtain rfl := Option.some.inj hx; simp [Sl.val, hd2]
      · unfold sumL
        simp
        omega
    have HS := Lib.hid hsum
    have ht0 : (0 : Int) ≤ (t : Int) := by omega
    have htn2 : (t : Int) ≤ (n : Int) := by omega
    have hnc2 : (n : Int) ≤ (c : Int) := by omega
    have htc : ¬ (c : Int) = (t : Int) := by omega
    have htc2 : ¬ c = t := by omega
    clear hsum ht htz hrot hn hc h hle hb
    rcases hrt with ⟨hr0, hrt⟩ | ⟨hr0, rfl⟩
    all_goals
      go_enter Tryd.func30, Tryd.ntmps30
      go_wp2_with fail
      go_region_with (first
        | (go_at_call 74; refine (HS.out _ (by (repeat' (first | exact Below.refl _ _ | refine Below.drew ?_ | refine below_drewN ?_ _ | refine Below.alloc ?_ ?_ _ | (simp; done) | (simp; omega)))) (by simp) (by intro j; simp)).mono ?_; rintro e w1 ⟨p1, c1, rfl, ho1, hb1⟩))
      all_goals
        have HO := Lib.hid (And.intro ho1 hb1)
        clear ho1 hb1
        go_wp2_with fail
        go_ret
        exact ⟨p1, c1, rfl, HO.out.1, HO.out.2⟩
end Go.Proofs.YthhighljfjeooaaDoor
