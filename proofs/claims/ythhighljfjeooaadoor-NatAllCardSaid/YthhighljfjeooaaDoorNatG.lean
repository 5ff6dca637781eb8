/- Package nat by its contracts, seventh part: Parse. -/
import Derived.Test.YthhighljfjeooaaDoorNatF
import Derived.Test.YthhighljfjeooaaDoorNatU
import Derived.Test.YthhighljfjeooaaDoorFaultA
namespace Go.Proofs.YthhighljfjeooaaDoor
open Go.RowKit Go.Extern.Stop Go.Stop Go.Extern NatM

/-- a string's bytes as numbers -/
def bsOf (s : ByteArray) : List Nat := s.data.toList.map (·.toNat)
theorem bsOf_length (s : ByteArray) : (bsOf s).length = s.size := by
  unfold bsOf
  rw [List.length_map, Array.length_toList]
  rfl
theorem bsOf_get {s : ByteArray} {k : Nat} (h : k < s.size) : (bsOf s)[k]? = some (s[k]).toNat := by
  unfold bsOf
  rw [List.getElem?_map, List.getElem?_eq_getElem (by simpa using h)]
  rfl
theorem isDig_iff {b : Nat} : isDig b = true ↔ 48 ≤ b ∧ b ≤ 57 := by unfold isDig; simp

def natOp : ByteArray := { data := #[110, 97, 116] }
/-- nothing but an error of this package, with its place and its number -/
def ErrPost (w : World) (A : Nat → Addr) (pl : Int) (k : Nat) (e : Ending) (w' : World) : Prop :=
  ∃ b, e = .returned (.tuple #[.slice none 0 0, (Tree.fault b natOp pl (.leaf (A k))).val]) ∧ (Tree.fault b natOp pl (.leaf (A k))).lies w' ∧ Below w.heap.size w w'
/-- a number and no error -/
def OkPost (w : World) (n : Nat) (e : Ending) (w' : World) : Prop :=
  ∃ p c, e = .returned (.tuple #[.slice p (D32 n).length c, .nilIface]) ∧ NatO w.heap.size w' p c (D32 n) ∧ Below w.heap.size w w'

def ParseRel (w : World) (s : ByteArray) (v5 v44 : Value) (wr : World) : Prop :=
  ∃ (k : Nat) (p : Option Addr) (cap : Nat) (t : List Nat), k ≤ s.size ∧ v44 = .int .i64 (k : Int) ∧ v5 = .slice p t.length cap ∧ V32 t = numOf ((bsOf s).take k) ∧ nrm t ∧ t.length ≤ k ∧ NatO w.heap.size wr p cap t ∧ Below w.heap.size w wr

set_option maxHeartbeats 4000000 in
theorem parse_ok (s : ByteArray) (w : World) (hs : s.size ≤ 1200) (h0 : 0 < s.size) (hd : ∀ b ∈ bsOf s, isDig b = true) (hz : ¬ (1 < s.size ∧ (bsOf s)[0]? = some 48)) :
    Calls Tryd.prog 47 #[.string s] w (OkPost w (numOf (bsOf s))) := by
  have HD := Lib.hid (And.intro hd hz)
  clear hd hz
  go_enter Tryd.func47, Tryd.ntmps47
  go_wp2_with fail
  go_loop [17] (fun v => ∃ k : Nat, k ≤ s.size ∧ v = .int .i64 (k : Int)) (fun v => s.size - (intOf v).toNat)
  case atStart => exact ⟨0, Nat.zero_le _, rfl⟩
  case round =>
    obtain ⟨k, hk, rfl⟩ := hrel
    by_cases hlt : k < s.size
    · have hb := isDig_iff.1 (HD.out.1 _ (List.mem_of_getElem? (bsOf_get hlt)))
      have h1 : ¬ ((s[k].toNat : Int) < 48) := by omega
      have h2 : ¬ ((57 : Int) < (s[k].toNat : Int)) := by omega
      clear hb
      go_wp2_with fail
      go_round
      case rel => exact ⟨k + 1, by omega, by go_num⟩
      case measure => simp [intOf]; omega
    · obtain rfl : k = s.size := by omega
      have hz1 : s.size = 1 ∨ ∃ h : 1 < s.size, (((s[0]'(by omega)).toNat : Int) == 48) = false := by
        rcases Nat.lt_or_ge 1 s.size with h1 | h1
        · right
          refine ⟨h1, ?_⟩
          rw [beq_eq_false_iff_ne]
          intro e
          apply HD.out.2
          refine ⟨h1, ?_⟩
          rw [bsOf_get (by omega)]
          congr 1
          omega
        · left; omega
      clear hlt
      have hn0 : D32 0 = [] := D32_nil.2 rfl
      rcases hz1 with h1 | ⟨h1, hz2⟩
      · have h1' : decide ((1 : Int) < (s.size : Int)) = false := by rw [decide_eq_false_iff_not]; omega
        have h1'' : decide (1 < s.size) = false := by rw [decide_eq_false_iff_not]; omega
        have H1 := Lib.hid h1
        clear h1
        have HN0 := Lib.hid hn0
        clear hn0
        go_wp2_with fail
        go_loopw [5, 44] (fun v5 v44 wr => ParseRel w s v5 v44 wr) (fun _ v _ => s.size - (intOf v).toNat)
        case atStart => exact ⟨0, none, 0, [], Nat.zero_le _, rfl, rfl, rfl, (fun _ h => by cases h), Nat.zero_le _, NatO.nothing _ _, Below.refl _ _⟩
        case round =>
          obtain ⟨k, p, cap, t, hk, rfl, rfl, hv, hn, htl, ho, hb⟩ := hrel
          have HP := Lib.hid (And.intro hv (And.intro hn (And.intro ho hb)))
          have hwB : w.heap.size ≤ wr.heap.size := hb.size
          by_cases hlt : k < s.size
          · have hbd := isDig_iff.1 (HD.out.1 _ (List.mem_of_getElem? (bsOf_get hlt)))
            obtain ⟨d, hd⟩ : ∃ d, s[k].toNat = d + 48 := ⟨s[k].toNat - 48, by omega⟩
            have hd9 : d ≤ 9 := by omega
            have hst := numOf_take (bsOf_get hlt)
            have e48 : s[k].toNat - 48 = d := by omega
            rw [e48] at hst
            have HS := Lib.hid hst
            clear hv hn hb hst hbd e48
            go_wp2_with fail
            refine (extend_any (B := w.heap.size) p cap t 10 d _ hwB HP.out.2.2.1 (by omega) (by omega) (by omega)).mono ?_
            rintro e w1 ⟨p1, c1, t1, rfl, hv1, hl1, hn1, ho1, hb1⟩
            have HT := Lib.hid (And.intro hv1 (And.intro hn1 (And.intro ho1 (HP.out.2.2.2.trans hb1))))
            have hl1' : t1.length ≤ k + 1 := by omega
            clear hv1 hn1 ho1 hb1 hl1 hd
            go_wp2_with fail
            go_roundw
            case rel => exact ⟨k + 1, p1, c1, t1, by omega, by go_num, rfl, by rw [HT.out.1, HS.out, HP.out.1], HT.out.2.1 HP.out.2.1 (by omega), hl1', HT.out.2.2.1, HT.out.2.2.2⟩
            case measure => simp [intOf]; omega
          · obtain rfl : k = s.size := by omega
            have he : V32 t = numOf (bsOf s) := by
              have := HP.out.1
              rwa [List.take_of_length_le (by rw [bsOf_length]; exact Nat.le_refl _)] at this
            have ht : D32 (numOf (bsOf s)) = t := digs_unique (by omega) ho.ok hn he
            have HT := Lib.hid ht
            clear hv hn ho hb he ht
            go_wp2_with fail
            go_ret2
            exact ⟨p, cap, by rw [HT.out]; rfl, by rw [HT.out]; exact HP.out.2.2.1, HP.out.2.2.2⟩
      · have HN0 := Lib.hid hn0
        clear hn0
        go_wp2_with fail
        go_loopw [5, 44] (fun v5 v44 wr => ParseRel w s v5 v44 wr) (fun _ v _ => s.size - (intOf v).toNat)
        case atStart => exact ⟨0, none, 0, [], Nat.zero_le _, rfl, rfl, rfl, (fun _ h => by cases h), Nat.zero_le _, NatO.nothing _ _, Below.refl _ _⟩
        case round =>
          obtain ⟨k, p, cap, t, hk, rfl, rfl, hv, hn, htl, ho, hb⟩ := hrel
          have HP := Lib.hid (And.intro hv (And.intro hn (And.intro ho hb)))
          have hwB : w.heap.size ≤ wr.heap.size := hb.size
          by_cases hlt : k < s.size
          · have hbd := isDig_iff.1 (HD.out.1 _ (List.mem_of_getElem? (bsOf_get hlt)))
            obtain ⟨d, hd⟩ : ∃ d, s[k].toNat = d + 48 := ⟨s[k].toNat - 48, by omega⟩
            have hd9 : d ≤ 9 := by omega
            have hst := numOf_take (bsOf_get hlt)
            have e48 : s[k].toNat - 48 = d := by omega
            rw [e48] at hst
            have HS := Lib.hid hst
            clear hv hn hb hst hbd e48
            go_wp2_with fail
            refine (extend_any (B := w.heap.size) p cap t 10 d _ hwB HP.out.2.2.1 (by omega) (by omega) (by omega)).mono ?_
            rintro e w1 ⟨p1, c1, t1, rfl, hv1, hl1, hn1, ho1, hb1⟩
            have HT := Lib.hid (And.intro hv1 (And.intro hn1 (And.intro ho1 (HP.out.2.2.2.trans hb1))))
            have hl1' : t1.length ≤ k + 1 := by omega
            clear hv1 hn1 ho1 hb1 hl1 hd
            go_wp2_with fail
            go_roundw
            case rel => exact ⟨k + 1, p1, c1, t1, by omega, by go_num, rfl, by rw [HT.out.1, HS.out, HP.out.1], HT.out.2.1 HP.out.2.1 (by omega), hl1', HT.out.2.2.1, HT.out.2.2.2⟩
            case measure => simp [intOf]; omega
          · obtain rfl : k = s.size := by omega
            have he : V32 t = numOf (bsOf s) := by
              have := HP.out.1
              rwa [List.take_of_length_le (by rw [bsOf_length]; exact Nat.le_refl _)] at this
            have ht : D32 (numOf (bsOf s)) = t := digs_unique (by omega) ho.ok hn he
            have HT := Lib.hid ht
            clear hv hn ho hb he ht
            go_wp2_with fail
            go_ret2
            exact ⟨p, cap, by rw [HT.out]; rfl, by rw [HT.out]; exact HP.out.2.2.1, HP.out.2.2.2⟩
theorem new_err (pl : Int) (n : Nat) (w : World) (A : Nat → Addr) (hr : Roots w A) (hn : 1 ≤ n ∧ n ≤ 11) :
    Calls Tryd.prog 77 #[.string natOp, .int .i64 pl, .int .i64 (n : Int)] w fun e w' => e = .returned (Tree.fault w.heap.size natOp pl (.leaf (A n))).val ∧ Below w.heap.size w w' ∧ (Tree.fault w.heap.size natOp pl (.leaf (A n))).lies w' := by
  have hk : known (n : Int) = n := by unfold known; rw [if_pos (by omega)]; rfl
  refine (new_any natOp pl n w A hr (by omega)).mono fun e w' ⟨he, hb, _, hl⟩ => ?_
  rw [hk] at he hl
  exact ⟨he, hb, hl⟩

theorem findIdx_some {l : List Nat} {p : Nat → Bool} {i : Nat} (h : l.findIdx? p = some i) : ∃ b, l[i]? = some b ∧ p b = true ∧ ∀ j x, j < i → l[j]? = some x → p x = false := by
  obtain ⟨hi, h1, h2⟩ := List.findIdx?_eq_some_iff_getElem.1 h
  refine ⟨l[i], List.getElem?_eq_getElem hi, h1, fun j x hj hx => ?_⟩
  obtain ⟨hjl, rfl⟩ := List.getElem?_eq_some_iff.1 hx
  simpa using h2 j hj

theorem parse_big (s : ByteArray) (w : World) (A : Nat → Addr) (hr : Roots w A) (hs : 1200 < s.size) :
    Calls Tryd.prog 47 #[.string s] w (ErrPost w A 0 4) := by
  have HR := Lib.hid hr
  clear hr
  go_enter Tryd.func47, Tryd.ntmps47
  go_wp2_with fail
  refine (new_err 0 4 _ A HR.out (by omega)).mono ?_
  rintro e w1 ⟨rfl, hb1, hl1⟩
  have H := Lib.hid (And.intro hl1 hb1)
  clear hl1 hb1
  go_wp2_with fail
  go_ret2
  exact ⟨_, rfl, H.out.1, H.out.2⟩
theorem parse_none (w : World) (A : Nat → Addr) (hr : Roots w A) (s : ByteArray) (hs : s.size = 0) :
    Calls Tryd.prog 47 #[.string s] w (ErrPost w A 0 6) := by
  have HR := Lib.hid hr
  clear hr
  go_enter Tryd.func47, Tryd.ntmps47
  go_wp2_with fail
  refine (new_err 0 6 _ A HR.out (by omega)).mono ?_
  rintro e w1 ⟨rfl, hb1, hl1⟩
  have H := Lib.hid (And.intro hl1 hb1)
  clear hl1 hb1
  go_wp2_with fail
  go_ret2
  exact ⟨_, rfl, H.out.1, H.out.2⟩
set_option maxHeartbeats 1000000 in
theorem parse_letter (w : World) (A : Nat → Addr) (hr : Roots w A) (s : ByteArray) (hs : s.size ≤ 1200) (i : Nat) (hi : (bsOf s).findIdx? (fun b => !isDig b) = some i) :
    Calls Tryd.prog 47 #[.string s] w (ErrPost w A i 6) := by
  have HR := Lib.hid hr
  obtain ⟨b, hb, hbad, hall⟩ := findIdx_some hi
  have hil : i < s.size := by have := get_lt hb; rwa [bsOf_length] at this
  have hbs : b = (s[i]).toNat := by rw [bsOf_get hil] at hb; exact (Option.some.inj hb).symm
  have HI := Lib.hid (And.intro hbad (And.intro hall hbs))
  clear hr hi hb hbad hall hbs
  go_enter Tryd.func47, Tryd.ntmps47
  go_wp2_with fail
  go_loop [17] (fun v => ∃ k : Nat, k ≤ i ∧ v = .int .i64 (k : Int)) (fun v => s.size - (intOf v).toNat)
  case atStart => exact ⟨0, Nat.zero_le _, rfl⟩
  case round =>
    obtain ⟨k, hk, rfl⟩ := hrel
    by_cases hlt : k < i
    · have hks : k < s.size := by omega
      have hg : isDig (s[k]).toNat = true := by simpa using HI.out.2.1 k _ hlt (bsOf_get hks)
      have hb := isDig_iff.1 hg
      have h1 : ¬ ((s[k].toNat : Int) < 48) := by omega
      have h2 : ¬ ((57 : Int) < (s[k].toNat : Int)) := by omega
      clear hb hg
      go_wp2_with fail
      go_round
      case rel => exact ⟨k + 1, by omega, by go_num⟩
      case measure => simp [intOf]; omega
    · obtain rfl : k = i := by omega
      have hnd : ¬ (48 ≤ (s[k]).toNat ∧ (s[k]).toNat ≤ 57) := by
        intro h
        have h1 := isDig_iff.2 h
        have h2 := HI.out.1
        rw [HI.out.2.2, h1] at h2
        cases h2
      rcases Nat.lt_or_ge (s[k]).toNat 48 with h1 | h1
      · have h1' : ((s[k].toNat : Int) < 48) := by omega
        clear hnd
        go_wp2_with fail
        refine (new_err k 6 _ A HR.out (by omega)).mono ?_
        rintro e w1 ⟨rfl, hb1, hl1⟩
        have H := Lib.hid (And.intro hl1 hb1)
        clear hl1 hb1
        go_wp2_with fail
        go_ret2
        exact ⟨_, rfl, H.out.1, H.out.2⟩
      · have h2' : ((57 : Int) < (s[k].toNat : Int)) := by omega
        clear hnd
        go_wp2_with fail
        refine (new_err k 6 _ A HR.out (by omega)).mono ?_
        rintro e w1 ⟨rfl, hb1, hl1⟩
        have H := Lib.hid (And.intro hl1 hb1)
        clear hl1 hb1
        go_wp2_with fail
        go_ret2
        exact ⟨_, rfl, H.out.1, H.out.2⟩
set_option maxHeartbeats 1000000 in
theorem parse_zero (w : World) (A : Nat → Addr) (hr : Roots w A) (s : ByteArray) (hs : s.size ≤ 1200) (hd : ∀ b ∈ bsOf s, isDig b = true) (h1 : 1 < s.size) (hz : (bsOf s)[0]? = some 48) :
    Calls Tryd.prog 47 #[.string s] w (ErrPost w A 0 6) := by
  have HR := Lib.hid hr
  have HD := Lib.hid hd
  have hz0 : (s[0]'(by omega)).toNat = 48 := by rw [bsOf_get (by omega)] at hz; exact Option.some.inj hz
  have HZ := Lib.hid hz0
  clear hr hd hz hz0
  go_enter Tryd.func47, Tryd.ntmps47
  go_wp2_with fail
  go_loop [17] (fun v => ∃ k : Nat, k ≤ s.size ∧ v = .int .i64 (k : Int)) (fun v => s.size - (intOf v).toNat)
  case atStart => exact ⟨0, Nat.zero_le _, rfl⟩
  case round =>
    obtain ⟨k, hk, rfl⟩ := hrel
    by_cases hlt : k < s.size
    · have hb := isDig_iff.1 (HD.out _ (List.mem_of_getElem? (bsOf_get hlt)))
      have h1 : ¬ ((s[k].toNat : Int) < 48) := by omega
      have h2 : ¬ ((57 : Int) < (s[k].toNat : Int)) := by omega
      clear hb
      go_wp2_with fail
      go_round
      case rel => exact ⟨k + 1, by omega, by go_num⟩
      case measure => simp [intOf]; omega
    · obtain rfl : k = s.size := by omega
      have hz2 : (((s[0]'(by omega)).toNat : Int) == 48) = true := by rw [beq_iff_eq]; have := HZ.out; omega
      go_wp2_with fail
      refine (new_err 0 6 _ A HR.out (by omega)).mono ?_
      rintro e w1 ⟨rfl, hb1, hl1⟩
      have H := Lib.hid (And.intro hl1 hb1)
      clear hl1 hb1
      go_wp2_with fail
      go_ret2
      exact ⟨_, rfl, H.out.1, H.out.2⟩
/-- Parse where it refuses -/
theorem parse_err (s : ByteArray) (w : World) (A : Nat → Addr) (hr : Roots w A) (i k : Nat) (h : parseBad (bsOf s) = some (i, k)) :
    Calls Tryd.prog 47 #[.string s] w (ErrPost w A i k) := by
  unfold parseBad at h
  rw [bsOf_length] at h
  split at h
  · obtain ⟨rfl, rfl⟩ := Prod.mk.inj (Option.some.inj h)
    exact parse_big s w A hr ‹_›
  · split at h
    · obtain ⟨rfl, rfl⟩ := Prod.mk.inj (Option.some.inj h)
      exact parse_none w A hr s ‹_›
    · split at h
      · rename_i j hj
        obtain ⟨rfl, rfl⟩ := Prod.mk.inj (Option.some.inj h)
        exact parse_letter w A hr s (by omega) j hj
      · rename_i hj
        split at h
        · rename_i hz
          obtain ⟨rfl, rfl⟩ := Prod.mk.inj (Option.some.inj h)
          exact parse_zero w A hr s (by omega) (fun b hb => by simpa using findIdx_none hj b hb) hz.1 hz.2
        · cases h
/-- Parse where it does not -/
theorem parse_num (s : ByteArray) (w : World) (h : parseBad (bsOf s) = none) :
    Calls Tryd.prog 47 #[.string s] w (OkPost w (numOf (bsOf s))) := by
  unfold parseBad at h
  rw [bsOf_length] at h
  split at h
  · cases h
  · split at h
    · cases h
    · split at h
      · cases h
      · rename_i hj
        split at h
        · cases h
        · rename_i hz
          exact parse_ok s w (by omega) (by omega) (fun b hb => by simpa using findIdx_none hj b hb) hz
end Go.Proofs.YthhighljfjeooaaDoor
