/- Lists of ints in memory: slices that read one, rows that the call owns, edenraw.Ints. -/
import Derived.Test.YthhighljfjeooaaDoorQuiet
namespace Go.Proofs.YthhighljfjeooaaDoor
open Go.RowKit

def cI (l : List Int) : List Value := l.map fun x => Value.int .i64 x
theorem cI_length (l : List Int) : (cI l).length = l.length := by simp [cI]
theorem cI_get {l : List Int} {j : Nat} {x : Int} (h : l[j]? = some x) : (cI l)[j]? = some (.int .i64 x) := by simp [cI, h]
theorem cI_app (a b : List Int) : cI (a ++ b) = cI a ++ cI b := by simp [cI]
theorem cI_take (l : List Int) (k : Nat) : cI (l.take k) = (cI l).take k := by simp [cI]
theorem getI {l : List Int} {k : Nat} (h : k < l.length) : ∃ x, l[k]? = some x := ⟨_, List.getElem?_eq_getElem h⟩
theorem ltI {l : List Int} {k : Nat} {x : Int} (h : l[k]? = some x) : k < l.length := (List.getElem?_eq_some_iff.1 h).1

/-- A slice of ints below block B: it reads l. -/
structure IntV (B : Nat) (w : World) (p : Option Addr) (c : Nat) (l : List Int) : Prop where
  le : l.length ≤ c
  cap : c ≤ maxLen
  nil : p = none → c = 0
  cell : l ≠ [] → ∃ b off, p = some ⟨b, off, none⟩ ∧ b < B ∧ ∀ (j : Nat) (x : Int), l[j]? = some x → w.cell? ⟨b, off + j, none⟩ = some (.int .i64 x)
theorem IntV.below {B : Nat} {w w' : World} {p : Option Addr} {c : Nat} {l : List Int} (hb : Below B w w') (h : IntV B w p c l) : IntV B w' p c l :=
  ⟨h.le, h.cap, h.nil, fun hn => by
    obtain ⟨b, off, hp, hlt, hc⟩ := h.cell hn
    exact ⟨b, off, hp, hlt, fun j x hx => (hb.cell (p := ⟨b, off + j, none⟩) hlt).trans (hc j x hx)⟩⟩
theorem IntV.mono {B B' : Nat} {w : World} {p : Option Addr} {c : Nat} {l : List Int} (hB : B ≤ B') (h : IntV B w p c l) : IntV B' w p c l :=
  ⟨h.le, h.cap, h.nil, fun hn => by
    obtain ⟨b, off, hp, hlt, hc⟩ := h.cell hn
    exact ⟨b, off, hp, by omega, hc⟩⟩
theorem IntV.next {w w' : World} {p : Option Addr} {c : Nat} {l : List Int} (hb : Below w.heap.size w w') (h : IntV w.heap.size w p c l) : IntV w'.heap.size w' p c l :=
  (h.below hb).mono hb.size
theorem IntV.take {B : Nat} {w : World} {p : Option Addr} {c : Nat} {l : List Int} (h : IntV B w p c l) (k : Nat) : IntV B w p c (l.take k) :=
  ⟨Nat.le_trans (by rw [List.length_take]; exact Nat.min_le_right _ _) h.le, h.cap, h.nil, fun hn => by
    have hne : l ≠ [] := by rintro rfl; simp at hn
    obtain ⟨b, off, hp, hlt, hc⟩ := h.cell hne
    refine ⟨b, off, hp, hlt, fun j x hx => hc j x ?_⟩
    rw [List.getElem?_take] at hx
    split at hx
    · exact hx
    · cases hx⟩
theorem IntV.nothing (w : World) : IntV w.heap.size w none 0 [] := ⟨Nat.le_refl _, Nat.zero_le _, fun _ => rfl, fun h => absurd rfl h⟩
theorem IntV.empty {B : Nat} {w : World} {p : Option Addr} {c : Nat} (hc : c ≤ maxLen) (hp : p = none → c = 0) : IntV B w p c [] := ⟨Nat.zero_le _, hc, hp, fun h => absurd rfl h⟩
/-- the piece from t on -/
theorem IntV.drop {B : Nat} {w : World} {b off c : Nat} {l : List Int} (h : IntV B w (some ⟨b, off, none⟩) c l) (t : Nat) (ht : t ≤ l.length) : IntV B w (some ⟨b, off + t, none⟩) (c - t) (l.drop t) :=
  ⟨by have := h.le; rw [List.length_drop]; omega, by have := h.cap; omega, (fun e => by cases e), fun hn => by
    have hne : l ≠ [] := by rintro rfl; simp at hn
    obtain ⟨b', off', hp, hlt, hc⟩ := h.cell hne
    obtain ⟨rfl, rfl⟩ : b = b' ∧ off = off' := by simpa using hp
    refine ⟨b, off + t, rfl, hlt, fun j x hx => ?_⟩
    rw [List.getElem?_drop] at hx
    rw [Nat.add_assoc]
    exact hc _ _ hx⟩

/-- A slice of ints that the call owns, in a block from base on: it reads l. -/
def IntO (base : Nat) (w : World) (p : Option Addr) (c : Nat) (l : List Int) : Prop := w.ownsRow base 3 1 (.slice p l.length c) l.length (cI l)
theorem IntO.next {base : Nat} {w w' : World} {p : Option Addr} {c : Nat} {l : List Int} (hb : Below w.heap.size w w') (h : IntO base w p c l) : IntO base w' p c l := ownsRow_below hb h
theorem IntO.base {base base' : Nat} {w : World} {p : Option Addr} {c : Nat} {l : List Int} (hB : base' ≤ base) (h : IntO base w p c l) : IntO base' w p c l := ownsRow_base hB h
theorem IntO.toV {base : Nat} {w : World} {p : Option Addr} {c : Nat} {l : List Int} (h : IntO base w p c l) : IntV w.heap.size w p c l := by
  rcases own_shape h with ⟨hv, h0, _⟩ | ⟨g, cap, hv, hg, hlt, hc, hm, hcl, _⟩
  · obtain ⟨rfl, _, rfl⟩ := by simpa using hv
    exact ⟨by omega, Nat.zero_le _, fun _ => rfl, fun hn => absurd (List.eq_nil_of_length_eq_zero h0) hn⟩
  · obtain ⟨rfl, rfl⟩ : p = some ⟨g, 0, none⟩ ∧ c = cap := by simpa using hv
    refine ⟨hc, hm, (fun e => by cases e), fun _ => ⟨g, 0, rfl, hlt, fun j x hx => ?_⟩⟩
    rw [Nat.zero_add]
    exact (hcl j (ltI hx)).trans (cI_get hx)
theorem IntO.nothing (base : Nat) (w : World) : IntO base w none 0 [] := World.ownsRow_nil _ _ _ _
theorem IntO.slice_own {base : Nat} {w : World} {v : Value} {l : List Int} (h : w.ownsRow base 3 1 v l.length (cI l)) : ∃ p c, v = .slice p l.length c ∧ IntO base w p c l := by
  rcases own_shape h with ⟨rfl, h0, _⟩ | ⟨g, cap, rfl, _⟩
  · obtain rfl := List.eq_nil_of_length_eq_zero h0
    exact ⟨none, 0, rfl, h⟩
  · exact ⟨_, _, rfl, h⟩
/-- a whole block is one own list -/
theorem IntO.of_block {base : Nat} {w : World} {g : Nat} {l : List Int} (hB : base ≤ g) (hm : l.length ≤ maxLen) (h : w.heap[g]? = some (.cells (cI l).toArray 3 (0, 0))) : IntO base w (some ⟨g, 0, none⟩) l.length l :=
  ⟨by rw [cI_length, Nat.mul_one], Or.inr ⟨g, l.length, _, rfl, hB, h, Nat.le_refl _, hm, by simp [cI], by rw [List.toList_toArray, List.take_of_length_le (by rw [cI_length]; omega)]⟩⟩

/-- new ints made by a call, behind the world w -/
def IntPost (w : World) (l : List Int) (e : Ending) (w' : World) : Prop :=
  ∃ p c, e = .returned (.slice p l.length c) ∧ IntO w.heap.size w' p c l ∧ Below w.heap.size w w'
/-- the same beside no error -/
def IntOk (w : World) (l : List Int) (e : Ending) (w' : World) : Prop :=
  ∃ p c, e = .returned (.tuple #[.slice p l.length c, .nilIface]) ∧ IntO w.heap.size w' p c l ∧ Below w.heap.size w w'

/-- a slice literal of ints, just laid -/
theorem IntV.laid {w : World} (l : List Int) (cs : Array Value) (t : TypeId) (hc : cs.toList = cI l) (hl : l.length ≤ 1000) :
    IntV (w.alloc (.cells cs t)).heap.size (w.alloc (.cells cs t)) (some ⟨w.heap.size, 0, none⟩) l.length l := by
  refine ⟨Nat.le_refl _, by unfold maxLen; omega, (fun h => by cases h), fun _ => ⟨w.heap.size, 0, rfl, by simp, fun j x hx => ?_⟩⟩
  rw [Nat.zero_add, cell_alloc_row, ← Array.getElem?_toList, hc]
  exact cI_get hx

def sameI (l k : List Int) : Bool := decide (l = k)
theorem sameI_self (l : List Int) : sameI l l = true := by simp [sameI]
theorem sameI_eq {l k : List Int} (h : l = k) : sameI l k = true := by simp [sameI, h]
theorem sameI_ne {l k : List Int} (h : l ≠ k) : sameI l k = false := by simp [sameI, h]
theorem take_alike {l k : List Int} {j : Nat} {x : Int} (hl : l[j]? = some x) (hk : k[j]? = some x) (h : l.take j = k.take j) : l.take (j + 1) = k.take (j + 1) := by
  rw [List.take_add_one, List.take_add_one, hl, hk, h]

set_option maxHeartbeats 1000000 in
theorem ints_q (p q : Option Addr) (n m c d : Nat) (l k : List Int) (w : World) (hn : n = l.length) (hm : m = k.length) (h : IntV w.heap.size w p c l) (h' : IntV w.heap.size w q d k) :
    Calls Tryd.prog 28 #[.slice p n c, .slice q m d] w (Quiet (.bool (sameI l k)) w) := by
  subst hn hm
  have hcap := h.cap
  have hle := h.le
  have hdle := h'.le
  have hdcap := h'.cap
  unfold maxLen at hcap hdcap
  have H := Lib.hid (And.intro h h')
  clear h h'
  by_cases hlen : l.length = k.length
  · obtain ⟨n, hn⟩ : ∃ n, n = l.length := ⟨_, rfl⟩
    rw [← hlen, ← hn]
    rw [← hn] at hle
    rw [← hlen, ← hn] at hdle
    have HN := Lib.hid (And.intro hn hlen)
    clear hn hlen
    go_enter Tryd.func28, Tryd.ntmps28
    go_wp2_with fail
    go_loopw [5] (fun v wx => ∃ j : Nat, j ≤ n ∧ v = .int .i64 j ∧ Hid (∃ a, wx = w.drewN a) ∧ Hid (l.take j = k.take j)) (fun i _ => n - (intOf i).toNat)
    case atStart => exact ⟨0, Nat.zero_le _, rfl, ⟨0, rfl⟩, by show _ = _; simp⟩
    case round =>
      obtain ⟨j, hj, rfl, hbx, ht⟩ := hrel
      by_cases hlt : j < n
      · have hnl := HN.out.1
        have hkl := HN.out.2
        have hne : l ≠ [] := by rintro rfl; simp at hnl; omega
        have hne' : k ≠ [] := by rintro rfl; simp at hkl; simp [hkl] at hnl; omega
        have hbw : Below w.heap.size w wr := hbx.out.elim fun a e => e ▸ below_drewN (Below.refl _ _) a
        obtain ⟨b, off, rfl, hb, hc⟩ := (H.out.1.below hbw).cell hne
        obtain ⟨b', off', rfl, hb', hc'⟩ := (H.out.2.below hbw).cell hne'
        obtain ⟨x, hx⟩ := getI (l := l) (k := j) (by omega)
        obtain ⟨y, hy⟩ := getI (l := k) (k := j) (by omega)
        have h1 := hc j x hx
        have h2 := hc' j y hy
        have HX := Lib.hid (And.intro hx hy)
        clear hbw hc hc' hx hy hne hne' hnl hkl
        by_cases hxy : x = y
        · subst hxy
          go_wp2_with fail
          go_quiet (fail)
          go_wp2_with fail
          go_roundw
          case rel => exact ⟨j + 1, by omega, by go_num, quiet_more hbx.out _, take_alike HX.out.1 HX.out.2 ht.out⟩
          case measure => simp [intOf]; omega
        · have hne1 : ((x : Int) == (y : Int)) = false := by simpa using hxy
          have hs : sameI l k = false := sameI_ne (by rintro rfl; have := HX.out; rw [this.1] at this; exact hxy (Option.some.inj this.2))
          have HS := Lib.hid hs
          clear hs
          go_wp2_with fail
          go_quiet (fail)
          go_wp2_with fail
          go_ret
          exact ⟨by rw [HS.out]; rfl, quiet_more hbx.out _⟩
      · obtain rfl : j = n := by omega
        have hs : sameI l k = true := sameI_eq (by
          have e := ht.out
          have e1 := HN.out
          rwa [e1.1, List.take_length, e1.2, List.take_length] at e)
        have HS := Lib.hid hs
        clear hs
        go_wp2_with fail
        go_ret
        exact ⟨by rw [HS.out]; rfl, hbx.out⟩
  · have hs : sameI l k = false := sameI_ne (by rintro rfl; exact hlen rfl)
    have hne1 : ((l.length : Int) == (k.length : Int)) = false := by rw [beq_eq_false_iff_ne]; omega
    have HS := Lib.hid hs
    clear hs
    go_enter Tryd.func28, Tryd.ntmps28
    go_wp2_with fail
    go_ret
    exact ⟨by rw [HS.out]; rfl, 0, rfl⟩
theorem ints_any (p q : Option Addr) (n m c d : Nat) (l k : List Int) (w : World) (hn : n = l.length) (hm : m = k.length) (h : IntV w.heap.size w p c l) (h' : IntV w.heap.size w q d k) :
    Calls Tryd.prog 28 #[.slice p n c, .slice q m d] w (Tells (.bool (sameI l k)) w) := Quiet.tells (ints_q p q n m c d l k w hn hm h h')
end Go.Proofs.YthhighljfjeooaaDoor
