/- Package nat by its contracts, first part: trim, sign, Cmp, and the tests of the statements. -/
import Derived.Test.YthhighljfjeooaaDoorBase
import Derived.Test.YthhighljfjeooaaDoorNatS
namespace Go.Proofs.YthhighljfjeooaaDoor
open Go.RowKit NatM

def D32 (n : Nat) : List Nat := digs 4294967296 n
def V32 (l : List Nat) : Nat := valB 4294967296 l
def ok32 (l : List Nat) : Prop := okB 4294967296 l
theorem V32_D32 (n : Nat) : V32 (D32 n) = n := valB_digs (by omega) n
theorem D32_ok (n : Nat) : ok32 (D32 n) := digs_ok (by omega) n
theorem D32_nrm (n : Nat) : nrm (D32 n) := digs_nrm (by omega) n
theorem D32_inj {m n : Nat} (h : D32 m = D32 n) : m = n := digs_inj (by omega) h
theorem D32_nil {n : Nat} : D32 n = [] ↔ n = 0 := digs_eq_nil (by omega)
theorem trim32 {l : List Nat} (h : ok32 l) : ∃ k, k ≤ l.length ∧ l.take k = D32 (V32 l) := trim_ex (by omega) h
theorem D32_le {l : List Nat} (h : ok32 l) : (D32 (V32 l)).length ≤ l.length := by
  obtain ⟨k, hk, e⟩ := trim32 h
  rw [← e, List.length_take]; exact Nat.min_le_right _ _
theorem D32_len {n k : Nat} (h : n < 4294967296 ^ k) : (D32 n).length ≤ k := digs_length_le (by omega) h
theorem V32_lt {l : List Nat} (h : ok32 l) : V32 l < 4294967296 ^ l.length := valB_lt (by omega) h

/-- A slice of limbs below block B: it reads l. -/
structure NatV (B : Nat) (w : World) (p : Option Addr) (c : Nat) (l : List Nat) : Prop where
  ok : ok32 l
  le : l.length ≤ c
  cap : c ≤ maxLen
  nil : p = none → c = 0
  cell : l ≠ [] → ∃ b off, p = some ⟨b, off, none⟩ ∧ b < B ∧ ∀ (j x : Nat), l[j]? = some x → w.cell? ⟨b, off + j, none⟩ = some (.int .u32 (x : Int))

theorem NatV.below {B : Nat} {w w' : World} {p : Option Addr} {c : Nat} {l : List Nat} (hb : Below B w w') (h : NatV B w p c l) : NatV B w' p c l :=
  ⟨h.ok, h.le, h.cap, h.nil, fun hn => by
    obtain ⟨b, off, hp, hlt, hc⟩ := h.cell hn
    exact ⟨b, off, hp, hlt, fun j x hx => (hb.cell (p := ⟨b, off + j, none⟩) hlt).trans (hc j x hx)⟩⟩
theorem NatV.mono {B B' : Nat} {w : World} {p : Option Addr} {c : Nat} {l : List Nat} (hB : B ≤ B') (h : NatV B w p c l) : NatV B' w p c l :=
  ⟨h.ok, h.le, h.cap, h.nil, fun hn => by
    obtain ⟨b, off, hp, hlt, hc⟩ := h.cell hn
    exact ⟨b, off, hp, by omega, hc⟩⟩
/-- in a later world, under its own heap's size -/
theorem NatV.next {w w' : World} {p : Option Addr} {c : Nat} {l : List Nat} (hb : Below w.heap.size w w') (h : NatV w.heap.size w p c l) : NatV w'.heap.size w' p c l :=
  (h.below hb).mono hb.size
theorem NatV.take {B : Nat} {w : World} {p : Option Addr} {c : Nat} {l : List Nat} (h : NatV B w p c l) (k : Nat) : NatV B w p c (l.take k) :=
  ⟨okB_take h.ok k, Nat.le_trans (by rw [List.length_take]; exact Nat.min_le_right _ _) h.le, h.cap, h.nil, fun hn => by
    have hne : l ≠ [] := by rintro rfl; simp at hn
    obtain ⟨b, off, hp, hlt, hc⟩ := h.cell hne
    refine ⟨b, off, hp, hlt, fun j x hx => hc j x ?_⟩
    rw [List.getElem?_take] at hx
    split at hx
    · exact hx
    · cases hx⟩
theorem NatV.trim {B : Nat} {w : World} {p : Option Addr} {c : Nat} {l : List Nat} (h : NatV B w p c l) : NatV B w p c (D32 (V32 l)) := by
  obtain ⟨k, _, e⟩ := trim32 h.ok
  rw [← e]; exact h.take k

def cells32 (l : List Nat) : List Value := l.map fun (x : Nat) => Value.int .u32 (x : Int)
theorem cells32_length (l : List Nat) : (cells32 l).length = l.length := by simp [cells32]
theorem cells32_get {l : List Nat} {j x : Nat} (h : l[j]? = some x) : (cells32 l)[j]? = some (.int .u32 (x : Int)) := by simp [cells32, h]

/-- A slice of limbs that the call owns, in a block from base on: it reads l. -/
structure NatO (base : Nat) (w : World) (p : Option Addr) (c : Nat) (l : List Nat) : Prop where
  own : w.ownsRow base 27 1 (.slice p l.length c) l.length (cells32 l)
  ok : ok32 l
theorem NatO.next {base : Nat} {w w' : World} {p : Option Addr} {c : Nat} {l : List Nat} (hb : Below w.heap.size w w') (h : NatO base w p c l) : NatO base w' p c l := ⟨ownsRow_below hb h.own, h.ok⟩
theorem NatO.base {base base' : Nat} {w : World} {p : Option Addr} {c : Nat} {l : List Nat} (hB : base' ≤ base) (h : NatO base w p c l) : NatO base' w p c l := ⟨ownsRow_base hB h.own, h.ok⟩
theorem NatO.toV {base : Nat} {w : World} {p : Option Addr} {c : Nat} {l : List Nat} (h : NatO base w p c l) : NatV w.heap.size w p c l := by
  rcases own_shape h.own with ⟨hv, h0, _⟩ | ⟨g, cap, hv, hg, hlt, hc, hm, hcl, _⟩
  · obtain ⟨rfl, _, rfl⟩ := by simpa using hv
    exact ⟨h.ok, by omega, Nat.zero_le _, fun _ => rfl, fun hn => absurd (List.eq_nil_of_length_eq_zero h0) hn⟩
  · obtain ⟨rfl, rfl⟩ : p = some ⟨g, 0, none⟩ ∧ c = cap := by simpa using hv
    refine ⟨h.ok, hc, hm, (fun e => by cases e), fun _ => ⟨g, 0, rfl, hlt, fun j x hx => ?_⟩⟩
    rw [Nat.zero_add]
    exact (hcl j (get_lt hx)).trans (cells32_get hx)
/-- a piece of an own slice from its head on -/
theorem NatO.slice_own {base : Nat} {w : World} {v : Value} {l : List Nat} (h : w.ownsRow base 27 1 v l.length (cells32 l)) (ok : ok32 l) : ∃ p c, v = .slice p l.length c ∧ NatO base w p c l := by
  rcases own_shape h with ⟨rfl, h0, _⟩ | ⟨g, cap, rfl, _⟩
  · obtain rfl := List.eq_nil_of_length_eq_zero h0
    exact ⟨none, 0, rfl, h, ok⟩
  · exact ⟨_, _, rfl, h, ok⟩
theorem NatO.take {base : Nat} {w : World} {p : Option Addr} {c : Nat} {l : List Nat} (h : NatO base w p c l) (k : Nat) : NatO base w p c (l.take k) := by
  obtain ⟨⟨hx, hr⟩, ok⟩ := h
  have hk : (l.take k).length ≤ l.length := by rw [List.length_take]; exact Nat.min_le_right _ _
  refine ⟨⟨by rw [cells32_length, Nat.mul_one], ?_⟩, okB_take ok k⟩
  rcases hr with ⟨hv, h0⟩ | ⟨g, cap, cur, hv, hg, hh, hc, hm, hs, ht⟩
  · obtain ⟨rfl, h1, rfl⟩ := by simpa using hv
    have : (l.take k).length = 0 := by omega
    exact Or.inl ⟨by rw [this], this⟩
  · obtain ⟨rfl, rfl⟩ : p = some ⟨g, 0, none⟩ ∧ c = cap := by simpa using hv
    refine Or.inr ⟨g, c, cur, rfl, hg, hh, by omega, hm, hs, ?_⟩
    have : cells32 (l.take k) = (cells32 l).take (l.take k).length := by
      unfold cells32
      rw [List.map_take, List.length_take]
      rcases Nat.le_total k l.length with h1 | h1
      · rw [Nat.min_eq_left h1]
      · rw [Nat.min_eq_right h1, List.take_of_length_le (by simpa using h1), List.take_of_length_le (by simp)]
    rw [this, ← ht, List.take_take, Nat.mul_one, Nat.mul_one, Nat.min_eq_left hk]
theorem NatO.trim {base : Nat} {w : World} {p : Option Addr} {c : Nat} {l : List Nat} (h : NatO base w p c l) : NatO base w p c (D32 (V32 l)) := by
  obtain ⟨k, _, e⟩ := trim32 h.ok
  rw [← e]; exact h.take k

set_option maxHeartbeats 400000 in
theorem trim_any {B : Nat} (p : Option Addr) (c : Nat) (l : List Nat) (w : World) (h : NatV B w p c l) :
    Calls Tryd.prog 65 #[.slice p l.length c] w fun e w' => e = .returned (.slice p (D32 (V32 l)).length c) ∧ w = w' := by
  have hcap := h.cap
  have hle := h.le
  have hnil := Lib.hid h.nil
  unfold maxLen at hcap
  have H := Lib.hid h
  clear h
  go_enter Tryd.func65, Tryd.ntmps65
  go_wp2
  go_loop [3] (fun v => ∃ k : Nat, k ≤ l.length ∧ v = .int .i64 k ∧ Hid (valB 4294967296 (l.take k) = valB 4294967296 l)) (fun v => (intOf v).toNat)
  case atStart => exact ⟨l.length, Nat.le_refl _, rfl, by rw [List.take_length]; exact rfl⟩
  case round =>
    obtain ⟨k, hk, rfl, hv⟩ := hrel
    by_cases h0 : k = 0
    · subst h0
      have hd : D32 (V32 l) = [] := trim0 (B := 4294967296) (by omega) H.out.ok hv.out
      have HD := Lib.hid hd
      clear hd
      rcases p with _ | a
      · have hc := hnil.out rfl
        subst hc
        go_wp2
        go_ret
        exact ⟨by rw [HD.out]; rfl, rfl⟩
      · go_wp2
        go_ret
        exact ⟨by rw [HD.out]; rfl, rfl⟩
    · have hne : l ≠ [] := by rintro rfl; simp at hk; omega
      obtain ⟨b, off, rfl, hlt, hc⟩ := H.out.cell hne
      obtain ⟨x, hx⟩ := some_get (l := l) (k := k - 1) (by omega)
      have hcl := hc (k - 1) x hx
      have HX := Lib.hid hx
      have hk0 : 0 < k := by omega
      clear hx hc hne h0
      by_cases hx0 : x = 0
      · subst hx0
        go_wp2
        go_round
        case rel => exact ⟨k - 1, by omega, by go_num, trim_stepq 4294967296 hk0 hk hv.out HX.out⟩
        case measure => simp [intOf]; omega
      · have hxx : ((x : Int) == 0) = false := by simpa using hx0
        have hd : D32 (V32 l) = l.take k := (trimq (B := 4294967296) (by omega) H.out.ok hk hv.out HX.out hx0).symm
        have hdl : (D32 (V32 l)).length = k := by rw [hd, List.length_take, Nat.min_eq_left hk]
        have hck : k ≤ c := by omega
        have HD := Lib.hid hdl
        clear hd hdl
        go_wp2
        go_ret
        exact ⟨by rw [HD.out]; rfl, rfl⟩

theorem sign_any (b : Bool) (w : World) :
    Calls Tryd.prog 66 #[.bool b] w fun e w' => e = .returned (.int .i64 (if b then -1 else 1)) ∧ w = w' := by
  cases b
  · go_enter Tryd.func66, Tryd.ntmps66
    go_wp2
    go_ret
    exact ⟨rfl, rfl⟩
  · go_enter Tryd.func66, Tryd.ntmps66
    go_wp2
    go_ret
    exact ⟨rfl, rfl⟩

set_option maxHeartbeats 1000000 in
theorem nats_same (p q : Option Addr) (c d : Nat) (l : List Nat) (w : World) (h : NatV w.heap.size w p c l) (k : NatV w.heap.size w q d l) :
    Calls Tryd.prog 48 #[.slice p l.length c, .slice q l.length d] w (Tells (.bool true) w) := by
  have hcap := h.cap
  have hle := h.le
  have hdle := k.le
  have hdcap := k.cap
  unfold maxLen at hcap hdcap
  have H := Lib.hid (And.intro h k)
  clear h k
  go_enter Tryd.func48, Tryd.ntmps48
  go_wp2_with fail
  go_loopw [5] (fun v wx => ∃ k : Nat, k ≤ l.length ∧ v = .int .i64 k ∧ Below w.heap.size w wx) (fun i _ => l.length - (intOf i).toNat)
  case atStart => exact ⟨0, Nat.zero_le _, rfl, Below.refl _ _⟩
  case round =>
    obtain ⟨k, hk, rfl, hbx⟩ := hrel
    by_cases hlt : k < l.length
    · have hne : l ≠ [] := by rintro rfl; simp at hlt
      obtain ⟨b, off, rfl, hb, hc⟩ := (H.out.1.below hbx).cell hne
      obtain ⟨b', off', rfl, hb', hc'⟩ := (H.out.2.below hbx).cell hne
      obtain ⟨x, hx⟩ := some_get (l := l) (k := k) (by omega)
      have h1 := hc k x hx
      have h2 := hc' k x hx
      clear hc hc' hx hne
      go_wp2_with fail
      go_quiet (fail)
      go_wp2_with fail
      go_roundw
      case rel => exact ⟨k + 1, by omega, by go_num, below_drewN hbx _⟩
      case measure => simp [intOf]; omega
    · obtain rfl : k = l.length := by omega
      go_wp2_with fail
      go_ret
      exact ⟨rfl, hbx⟩
end Go.Proofs.YthhighljfjeooaaDoor
