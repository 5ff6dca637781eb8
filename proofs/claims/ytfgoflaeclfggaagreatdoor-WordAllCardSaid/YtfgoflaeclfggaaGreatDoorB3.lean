/- Lists of ints in memory: slices that read one, rows that the call owns, edenraw.Ints.
Lists of ints: slices.Clone, slices.Reverse.

Plain mathematics of words: the least turn.
Plain mathematics of words: words as numbers, the next word, repeats.
cmp.Compare, slices.Compare, slices.Equal of ints.
Package word by its contracts, first part: alphabet, Check.
The document's own package of words by its contracts: Check.
The document's own package of words by its contracts: Bad of an error; Text, Next and Index where Check refuses.
Lists of ints: make, slices.Grow of nil, slices.Concat.
Package word by its contracts, second part: Cmp, Back, Turn.
Package word by its contracts, fourth part: Next.
Bytes of texts as numbers, and back.
Package word by its contracts, fifth part: Next where it is refused, Parse.
Package word by its contracts, sixth part: Text. -/
import Derived.Test.YtfgoflaeclfggaaGreatDoorB2
import Derived.WalkSpells
import Derived.Maps.AppendAt
import Derived.OwnWalk
import Derived.Laws.MakeOwn
import Derived.RegionTactic
import Derived.ChangeAlike
import Derived.Test.YtfgoflaeclfggaaGreatDoorB1
import Derived.Deep.DeepCutAuto
import Derived.Laws.AppendOwnNone
import Derived.Lib.AppendZerosOnto
import Derived.Lib.Walk
import Derived.Laws.Append
import Derived.Lib.SliceRun
import Derived.Deep.RegionWith
import Derived.Laws.BytesArg
section
namespace Go.Proofs.YtfgoflaeclfggaaGreatDoor
open Go.RowKit

def cI (l : List Int) : List Value := l.map fun x => Value.int .i64 x
theorem cI_length (l : List Int) : (cI l).length = l.length := by simp [cI]
theorem cI_get {l : List Int} {j : Nat} {x : Int} (h : l[j]? = some x) : (cI l)[j]? = some (.int .i64 x) := by simp [cI, h]
theorem cI_app (a b : List Int) : cI (a ++ b) = cI a ++ cI b := by simp [cI]
theorem cI_take (l : List Int) (k : Nat) : cI (l.take k) = (cI l).take k := by simp [cI]
theorem getI {l : List Int} {k : Nat} (h : k < l.length) : ∃ x, l[k]? = some x := ⟨_, List.getElem?_eq_getElem h⟩
theorem ltI {l : List Int} {k : Nat} {x : Int} (h : l[k]? = some x) : k < l.length := (List.getElem?_eq_some_iff.1 h).1

/-- A slice of ints below block B: it reads l. -/
structure IntV (B : Nat) (w : World) (p : Option Addr) (c : Nat) (l : List Int) : Prop where
  le : l.length ≤ c
  cap : c ≤ maxLen
  nil : p = none → c = 0
  cell : l ≠ [] → ∃ b off, p = some ⟨b, off, none⟩ ∧ b < B ∧ ∀ (j : Nat) (x : Int), l[j]? = some x → w.cell? ⟨b, off + j, none⟩ = some (.int .i64 x)
theorem IntV.below {B : Nat} {w w' : World} {p : Option Addr} {c : Nat} {l : List Int} (hb : Below B w w') (h : IntV B w p c l) : IntV B w' p c l :=
  ⟨h.le, h.cap, h.nil, fun hn => by
    obtain ⟨b, off, hp, hlt, hc⟩ := h.cell hn
    exact ⟨b, off, hp, hlt, fun j x hx => (hb.cell (p := ⟨b, off + j, none⟩) hlt).trans (hc j x hx)⟩⟩
theorem IntV.mono {B B' : Nat} {w : World} {p : Option Addr} {c : Nat} {l : List Int} (hB : B ≤ B') (h : IntV B w p c l) : IntV B' w p c l :=
  ⟨h.le, h.cap, h.nil, fun hn => by
    obtain ⟨b, off, hp, hlt, hc⟩ := h.cell hn
    exact ⟨b, off, hp, by omega, hc⟩⟩
theorem IntV.next {w w' : World} {p : Option Addr} {c : Nat} {l : List Int} (hb : Below w.heap.size w w') (h : IntV w.heap.size w p c l) : IntV w'.heap.size w' p c l :=
  (h.below hb).mono hb.size
theorem IntV.take {B : Nat} {w : World} {p : Option Addr} {c : Nat} {l : List Int} (h : IntV B w p c l) (k : Nat) : IntV B w p c (l.take k) :=
  ⟨Nat.le_trans (by rw [List.length_take]; exact Nat.min_le_right _ _) h.le, h.cap, h.nil, fun hn => by
    have hne : l ≠ [] := by rintro rfl; simp at hn
    obtain ⟨b, off, hp, hlt, hc⟩ := h.cell hne
    refine ⟨b, off, hp, hlt, fun j x hx => hc j x ?_⟩
    rw [List.getElem?_take] at hx
    split at hx
    · exact hx
    · cases hx⟩
theorem IntV.nothing (w : World) : IntV w.heap.size w none 0 [] := ⟨Nat.le_refl _, Nat.zero_le _, fun _ => rfl, fun h => absurd rfl h⟩
theorem IntV.empty {B : Nat} {w : World} {p : Option Addr} {c : Nat} (hc : c ≤ maxLen) (hp : p = none → c = 0) : IntV B w p c [] := ⟨Nat.zero_le _, hc, hp, fun h => absurd rfl h⟩
/-- the piece from t on -/
theorem IntV.drop {B : Nat} {w : World} {b off c : Nat} {l : List Int} (h : IntV B w (some ⟨b, off, none⟩) c l) (t : Nat) (ht : t ≤ l.length) : IntV B w (some ⟨b, off + t, none⟩) (c - t) (l.drop t) :=
  ⟨by have := h.le; rw [List.length_drop]; omega, by have := h.cap; omega, (fun e => by cases e), fun hn => by
    have hne : l ≠ [] := by rintro rfl; simp at hn
    obtain ⟨b', off', hp, hlt, hc⟩ := h.cell hne
    obtain ⟨rfl, rfl⟩ : b = b' ∧ off = off' := by simpa using hp
    refine ⟨b, off + t, rfl, hlt, fun j x hx => ?_⟩
    rw [List.getElem?_drop] at hx
    rw [Nat.add_assoc]
    exact hc _ _ hx⟩

/-- A slice of ints that the call owns, in a block from base on: it reads l. -/
def IntO (base : Nat) (w : World) (p : Option Addr) (c : Nat) (l : List Int) : Prop := w.ownsRow base 3 1 (.slice p l.length c) l.length (cI l)
theorem IntO.next {base : Nat} {w w' : World} {p : Option Addr} {c : Nat} {l : List Int} (hb : Below w.heap.size w w') (h : IntO base w p c l) : IntO base w' p c l := ownsRow_below hb h
theorem IntO.base {base base' : Nat} {w : World} {p : Option Addr} {c : Nat} {l : List Int} (hB : base' ≤ base) (h : IntO base w p c l) : IntO base' w p c l := ownsRow_base hB h
theorem IntO.toV {base : Nat} {w : World} {p : Option Addr} {c : Nat} {l : List Int} (h : IntO base w p c l) : IntV w.heap.size w p c l := by
  rcases own_shape h with ⟨hv, h0, _⟩ | ⟨g, cap, hv, hg, hlt, hc, hm, hcl, _⟩
  · obtain ⟨rfl, _, rfl⟩ := by simpa using hv
    exact ⟨by omega, Nat.zero_le _, fun _ => rfl, fun hn => absurd (List.eq_nil_of_length_eq_zero h0) hn⟩
  · obtain ⟨rfl, rfl⟩ : p = some ⟨g, 0, none⟩ ∧ c = cap := by simpa using hv
    refine ⟨hc, hm, (fun e => by cases e), fun _ => ⟨g, 0, rfl, hlt, fun j x hx => ?_⟩⟩
    rw [Nat.zero_add]
    exact (hcl j (ltI hx)).trans (cI_get hx)
theorem IntO.nothing (base : Nat) (w : World) : IntO base w none 0 [] := World.ownsRow_nil _ _ _ _
theorem IntO.slice_own {base : Nat} {w : World} {v : Value} {l : List Int} (h : w.ownsRow base 3 1 v l.length (cI l)) : ∃ p c, v = .slice p l.length c ∧ IntO base w p c l := by
  rcases own_shape h with ⟨rfl, h0, _⟩ | ⟨g, cap, rfl, _⟩
  · obtain rfl := List.eq_nil_of_length_eq_zero h0
    exact ⟨none, 0, rfl, h⟩
  · exact ⟨_, _, rfl, h⟩
/-- a whole block is one own list -/
theorem IntO.of_block {base : Nat} {w : World} {g : Nat} {l : List Int} (hB : base ≤ g) (hm : l.length ≤ maxLen) (h : w.heap[g]? = some (.cells (cI l).toArray 3 (0, 0))) : IntO base w (some ⟨g, 0, none⟩) l.length l :=
  ⟨by rw [cI_length, Nat.mul_one], Or.inr ⟨g, l.length, _, rfl, hB, h, Nat.le_refl _, hm, by simp [cI], by rw [List.toList_toArray, List.take_of_length_le (by rw [cI_length]; omega)]⟩⟩

/-- new ints made by a call, behind the world w -/
def IntPost (w : World) (l : List Int) (e : Ending) (w' : World) : Prop :=
  ∃ p c, e = .returned (.slice p l.length c) ∧ IntO w.heap.size w' p c l ∧ Below w.heap.size w w'
/-- the same beside no error -/
def IntOk (w : World) (l : List Int) (e : Ending) (w' : World) : Prop :=
  ∃ p c, e = .returned (.tuple #[.slice p l.length c, .nilIface]) ∧ IntO w.heap.size w' p c l ∧ Below w.heap.size w w'

/-- a slice literal of ints, just laid -/
theorem IntV.laid {w : World} (l : List Int) (cs : Array Value) (t : TypeId) (hc : cs.toList = cI l) (hl : l.length ≤ 1000) :
    IntV (w.alloc (.cells cs t)).heap.size (w.alloc (.cells cs t)) (some ⟨w.heap.size, 0, none⟩) l.length l := by
  refine ⟨Nat.le_refl _, by unfold maxLen; omega, (fun h => by cases h), fun _ => ⟨w.heap.size, 0, rfl, by simp, fun j x hx => ?_⟩⟩
  rw [Nat.zero_add, cell_alloc_row, ← Array.getElem?_toList, hc]
  exact cI_get hx

def sameI (l k : List Int) : Bool := decide (l = k)
theorem sameI_self (l : List Int) : sameI l l = true := by simp [sameI]
theorem sameI_eq {l k : List Int} (h : l = k) : sameI l k = true := by simp [sameI, h]
theorem sameI_ne {l k : List Int} (h : l ≠ k) : sameI l k = false := by simp [sameI, h]
theorem take_alike {l k : List Int} {j : Nat} {x : Int} (hl : l[j]? = some x) (hk : k[j]? = some x) (h : l.take j = k.take j) : l.take (j + 1) = k.take (j + 1) := by
  rw [List.take_add_one, List.take_add_one, hl, hk, h]

set_option maxHeartbeats 1000000 in
theorem ints_q (p q : Option Addr) (n m c d : Nat) (l k : List Int) (w : World) (hn : n = l.length) (hm : m = k.length) (h : IntV w.heap.size w p c l) (h' : IntV w.heap.size w q d k) :
    Calls Tryz.prog 17 #[.slice p n c, .slice q m d] w (Quiet (.bool (sameI l k)) w) := by
  subst hn hm
  have hcap := h.cap
  have hle := h.le
  have hdle := h'.le
  have hdcap := h'.cap
  unfold maxLen at hcap hdcap
  have H := Lib.hid (And.intro h h')
  clear h h'
  by_cases hlen : l.length = k.length
  · obtain ⟨n, hn⟩ : ∃ n, n = l.length := ⟨_, rfl⟩
    rw [← hlen, ← hn]
    rw [← hn] at hle
    rw [← hlen, ← hn] at hdle
    have HN := Lib.hid (And.intro hn hlen)
    clear hn hlen
    go_enter Tryz.func17, Tryz.ntmps17
    go_wp2_with fail
    go_loopw [5] (fun v wx => ∃ j : Nat, j ≤ n ∧ v = .int .i64 j ∧ Hid (∃ a, wx = w.drewN a) ∧ Hid (l.take j = k.take j)) (fun i _ => n - (intOf i).toNat)
    case atStart => exact ⟨0, Nat.zero_le _, rfl, ⟨0, rfl⟩, by show _ = _; simp⟩
    case round =>
      obtain ⟨j, hj, rfl, hbx, ht⟩ := hrel
      by_cases hlt : j < n
      · have hnl := HN.out.1
        have hkl := HN.out.2
        have hne : l ≠ [] := by rintro rfl; simp at hnl; omega
        have hne' : k ≠ [] := by rintro rfl; simp at hkl; simp [hkl] at hnl; omega
        have hbw : Below w.heap.size w wr := hbx.out.elim fun a e => e ▸ below_drewN (Below.refl _ _) a
        obtain ⟨b, off, rfl, hb, hc⟩ := (H.out.1.below hbw).cell hne
        obtain ⟨b', off', rfl, hb', hc'⟩ := (H.out.2.below hbw).cell hne'
        obtain ⟨x, hx⟩ := getI (l := l) (k := j) (by omega)
        obtain ⟨y, hy⟩ := getI (l := k) (k := j) (by omega)
        have h1 := hc j x hx
        have h2 := hc' j y hy
        have HX := Lib.hid (And.intro hx hy)
        clear hbw hc hc' hx hy hne hne' hnl hkl
        by_cases hxy : x = y
        · subst hxy
          go_wp2_with fail
          go_quiet (fail)
          go_wp2_with fail
          go_roundw
          case rel => exact ⟨j + 1, by omega, by go_num, quiet_more hbx.out _, take_alike HX.out.1 HX.out.2 ht.out⟩
          case measure => simp [intOf]; omega
        · have hne1 : ((x : Int) == (y : Int)) = false := by simpa using hxy
          have hs : sameI l k = false := sameI_ne (by rintro rfl; have := HX.out; rw [this.1] at this; exact hxy (Option.some.inj this.2))
          have HS := Lib.hid hs
          clear hs
          go_wp2_with fail
          go_quiet (fail)
          go_wp2_with fail
          go_ret
          exact ⟨by rw [HS.out]; rfl, quiet_more hbx.out _⟩
      · obtain rfl : j = n := by omega
        have hs : sameI l k = true := sameI_eq (by
          have e := ht.out
          have e1 := HN.out
          rwa [e1.1, List.take_length, e1.2, List.take_length] at e)
        have HS := Lib.hid hs
        clear hs
        go_wp2_with fail
        go_ret
        exact ⟨by rw [HS.out]; rfl, hbx.out⟩
  · have hs : sameI l k = false := sameI_ne (by rintro rfl; exact hlen rfl)
    have hne1 : ((l.length : Int) == (k.length : Int)) = false := by rw [beq_eq_false_iff_ne]; omega
    have HS := Lib.hid hs
    clear hs
    go_enter Tryz.func17, Tryz.ntmps17
    go_wp2_with fail
    go_ret
    exact ⟨by rw [HS.out]; rfl, 0, rfl⟩
theorem ints_any (p q : Option Addr) (n m c d : Nat) (l k : List Int) (w : World) (hn : n = l.length) (hm : m = k.length) (h : IntV w.heap.size w p c l) (h' : IntV w.heap.size w q d k) :
    Calls Tryz.prog 17 #[.slice p n c, .slice q m d] w (Tells (.bool (sameI l k)) w) := Quiet.tells (ints_q p q n m c d l k w hn hm h h')
end Go.Proofs.YtfgoflaeclfggaaGreatDoor
end
section
namespace Go.Proofs.YtfgoflaeclfggaaGreatDoor
open Go.RowKit NatM

theorem infoI : (Tryz.prog.info? 3).map (fun i => (i.zero, i.size, i.bytes)) = some (some (.int .i64 0), 1, 8) := by kernel_rfl
theorem cI_set (l : List Int) (k : Nat) (x : Int) : cI (l.set k x) = (cI l).set k (.int .i64 x) := by simp [cI, List.map_set]
set_option maxRecDepth 100000 in
set_option maxHeartbeats 1000000 in
theorem cloneI_any (p : Option Addr) (cap : Nat) (l : List Int) (w : World) (h : IntV w.heap.size w p cap l) (hl : l.length ≤ 17592186044000) :
    Calls Tryz.prog 58 #[.slice p l.length cap] w (IntPost w l) := by
  obtain ⟨i0, hi, hz0, hz1, hz2⟩ := info_parts infoI
  have H := Lib.hid h
  have hle := h.le
  have hnn := fun (W : World) (a : Option Addr) (n c : Nat) => Lib.run_eql_slice_nil (P := Tryz.prog) W 24 3 a n c 0 0 Tryz.underlying24
  rcases p with _ | a
  · have hc := h.nil rfl
    subst hc
    have hl0 : l = [] := List.eq_nil_of_length_eq_zero (by omega)
    subst hl0
    clear h
    show Calls Tryz.prog 58 #[.slice none 0 0] w (IntPost w [])
    go_enter Tryz.func58, Tryz.ntmps58
    go_wp2_with fail
    go_ret
    exact ⟨none, 0, rfl, IntO.nothing _ _, Below.refl _ _⟩
  · rcases Nat.eq_zero_or_pos l.length with hl0 | hl0
    · obtain rfl : l = [] := List.eq_nil_of_length_eq_zero hl0
      clear h
      show Calls Tryz.prog 58 #[.slice (some a) 0 cap] w (IntPost w [])
      go_enter Tryz.func58, Tryz.ntmps58
      go_wp2_with (at_builtin; refine wpList_append_own _ rfl _ _ 24 rfl w.heap.size 3 i0 (.int .i64 0) 1 8 Tryz.underlying24 hi hz0 hz1 hz2 rfl (by decide) _ 0 [] rfl (World.ownsRow_made w #[] 0 (Nat.le_refl _) (Nat.zero_le _) rfl) a 0 cap [] rfl rfl ?c1 ?c2 ?c3 ?c4 ?c5 ?_)
      case c1 => intro j u hj; simp at hj
      case c2 => intro u hu; simp at hu
      case c3 => unfold maxLen; omega
      case c4 => omega
      case c5 => simp
      intro v' w1 hown' hgrow _
      obtain ⟨p1, c1, rfl, ho1⟩ := IntO.slice_own (l := []) hown'
      have hb1 : Below w.heap.size w w1 := ((Below.refl _ _).alloc (Nat.le_refl _) _).grown hgrow (by simp) (fun j hj => by have := Option.some.inj hj; simp at this; omega)
      have HO := Lib.hid (And.intro ho1 hb1)
      clear hown' hgrow ho1 hb1
      go_wp2_with fail
      go_ret
      exact ⟨p1, c1, rfl, HO.out.1, HO.out.2⟩
    · obtain ⟨b, off, ha, hb, hc⟩ := h.cell (List.length_pos_iff.1 hl0)
      have HA := Lib.hid ha
      obtain rfl : a = ⟨b, off, none⟩ := by simpa using ha
      have HC := Lib.hid hc
      clear h hc ha
      go_enter Tryz.func58, Tryz.ntmps58
      go_wp2_with (at_builtin; refine wpList_append_own _ rfl _ _ 24 rfl w.heap.size 3 i0 (.int .i64 0) 1 8 Tryz.underlying24 hi hz0 hz1 hz2 rfl (by decide) _ 0 [] rfl (World.ownsRow_made w #[] 0 (Nat.le_refl _) (Nat.zero_le _) rfl) ⟨b, off, none⟩ l.length cap (cI l) rfl ?c0 ?c1 ?c2 ?c3 ?c4 ?c5 ?_)
      case c0 => simp [cI]
      case c1 =>
        intro j u hj
        unfold cI at hj
        rw [List.getElem?_map] at hj
        obtain ⟨x, hx, rfl⟩ := Option.map_eq_some_iff.1 hj
        exact HC.out j x hx
      case c2 =>
        intro u hu
        unfold cI at hu
        obtain ⟨x, _, rfl⟩ := List.mem_map.1 hu
        rfl
      case c3 => unfold maxLen; omega
      case c4 => omega
      intro v' w1 hown' hgrow _
      obtain ⟨p1, c1, rfl, ho1⟩ := IntO.slice_own (l := l) (by simpa using hown')
      have hb1 : Below w.heap.size w w1 := ((Below.refl _ _).alloc (Nat.le_refl _) _).grown hgrow (by simp) (fun j hj => by have := Option.some.inj hj; simp at this; omega)
      have HO := Lib.hid (And.intro ho1 hb1)
      clear hown' hgrow ho1 hb1
      go_wp2_with fail
      go_ret
      exact ⟨p1, c1, by simp, HO.out.1, HO.out.2⟩
def RevRelI (w : World) (base g cap : Nat) (xs : List Int) (v2 v3 : Value) (wr : World) : Prop :=
  ∃ (k : Nat) (zs : List Int), 2 * k ≤ xs.length ∧ v2 = .int .i64 (k : Int) ∧ v3 = .int .i64 ((xs.length : Int) - 1 - (k : Int)) ∧ RevAt xs zs k ∧ wr.ownsRow base 3 1 (.slice (some ⟨g, 0, none⟩) xs.length cap) xs.length (cI zs) ∧ w.grownBy wr (some g)
def RevPostI (w : World) (base g cap : Nat) (xs : List Int) (e : Ending) (w' : World) : Prop :=
  e = .returned (.tuple #[]) ∧ w'.ownsRow base 3 1 (.slice (some ⟨g, 0, none⟩) xs.length cap) xs.length (cI xs.reverse) ∧ w.grownBy w' (some g)

set_option maxHeartbeats 1000000 in
theorem reverseI_any (base g cap : Nat) (xs : List Int) (w : World) (hl : xs.length ≤ 9223372036854775807) (h : w.ownsRow base 3 1 (.slice (some ⟨g, 0, none⟩) xs.length cap) xs.length (cI xs)) :
    Calls Tryz.prog 84 #[.slice (some ⟨g, 0, none⟩) xs.length cap] w (RevPostI w base g cap xs) := by
  have H := Lib.hid h
  clear h
  go_enter Tryz.func84, Tryz.ntmps84
  go_wp2_with fail
  go_loopw [2, 3] (fun v2 v3 wr => RevRelI w base g cap xs v2 v3 wr) (fun v _ _ => xs.length - (intOf v).toNat)
  case atStart => exact ⟨0, xs, Nat.zero_le _, rfl, by go_num, RevAt.start xs, H.out, World.grownBy.refl _ _⟩
  case round =>
    obtain ⟨k, zs, hk, rfl, rfl, hR, ho, hb⟩ := hrel
    have HR := Lib.hid (And.intro hR (And.intro ho hb))
    by_cases hgo : 2 * k + 1 < xs.length
    · obtain ⟨j, hj⟩ : ∃ j, xs.length - 1 - k = j := ⟨_, rfl⟩
      have e1 : ((xs.length : Int) - 1 - (k : Int)) = (j : Int) := by omega
      rw [e1]
      have hzl : zs.length = xs.length := hR.1
      obtain ⟨x, hx⟩ : ∃ x, zs[k]? = some x := ⟨_, List.getElem?_eq_getElem (by omega)⟩
      obtain ⟨y, hy⟩ : ∃ y, zs[j]? = some y := ⟨_, List.getElem?_eq_getElem (by omega)⟩
      have hcx : wr.cell? ⟨g, k, none⟩ = some (.int .i64 x) := (ho.cellAt k (by omega)).trans (cI_get hx)
      have hcy : wr.cell? ⟨g, j, none⟩ = some (.int .i64 y) := (ho.cellAt j (by omega)).trans (cI_get hy)
      have hfx : wr.frozen? ⟨g, k, none⟩ = false := ho.frozenAt k
      have hfy : wr.frozen? ⟨g, j, none⟩ = false := ho.frozenAt j
      have hkj : k < j := by omega
      have hjn : j < xs.length := by omega
      have hkn : k < xs.length := by omega
      have hne : ¬ k = j := by omega
      have hne2 : ¬ j = k := by omega
      have hst := hR.step hgo hx (by rw [hj]; exact hy)
      rw [hj] at hst
      obtain ⟨s1, t1⟩ := ho.stored k (.int .i64 y)
      obtain ⟨s2, t2⟩ := s1.stored j (.int .i64 x)
      rw [← cI_set, ← cI_set] at s2
      have HS := Lib.hid (And.intro hst (And.intro s2 (And.intro (World.grownBy.trans (World.grownBy.trans hb t1) t2) hj)))
      clear hst hj hzl e1 hR ho hb hx hy s1 s2 t1 t2
      go_wp2_with fail
      go_region
      go_wp2_with fail
      go_roundw
      case rel => exact ⟨k + 1, (zs.set k y).set j x, by omega, by go_num, by have := HS.out.2.2.2; go_num, HS.out.1, HS.out.2.1, only_drew HS.out.2.2.1⟩
      case measure => simp [intOf]; omega
    · have hd : zs = xs.reverse := hR.done (by omega)
      have HD := Lib.hid hd
      clear hd hR ho hb
      go_wp2_with fail
      go_end0
      exact ⟨rfl, by have := HR.out.2.1; rwa [HD.out] at this, HR.out.2.2⟩
end Go.Proofs.YtfgoflaeclfggaaGreatDoor
end
section
/- Plain mathematics of words: turns, their order, periods. -/
namespace Go.Proofs.YtfgoflaeclfggaaGreatDoor.WordM

/-- the symbol at a place, counted around -/
def F (w : List Int) (i : Nat) : Int := w.getD (i % w.length) 0
/-- turned by t -/
def rot (w : List Int) (t : Nat) : List Int := (List.range w.length).map fun i => F w (i + t)
theorem rot_length (w : List Int) (t : Nat) : (rot w t).length = w.length := by simp [rot]
theorem F_add (w : List Int) (i : Nat) : F w (i + w.length) = F w i := by unfold F; rw [Nat.add_mod_right]
theorem F_mod (w : List Int) (i : Nat) : F w (i % w.length) = F w i := by unfold F; rw [Nat.mod_mod]
theorem F_get {w : List Int} {i : Nat} (h : i < w.length) : w[i]? = some (F w i) := by
  unfold F
  rw [Nat.mod_eq_of_lt h, List.getD_eq_getElem?_getD, List.getElem?_eq_getElem h]; rfl
theorem rot_get {w : List Int} {t i : Nat} (h : i < w.length) : (rot w t)[i]? = some (F w (i + t)) := by
  unfold rot
  rw [List.getElem?_map, List.getElem?_range h]; rfl
theorem F_rot (w : List Int) (t i : Nat) : F (rot w t) i = F w (i + t) := by
  rcases Nat.eq_zero_or_pos w.length with h | h
  · have h1 := List.eq_nil_of_length_eq_zero h
    subst h1; rfl
  · have h1 : i % w.length < w.length := Nat.mod_lt _ h
    have h2 := rot_get (t := t) h1
    unfold F
    rw [rot_length, List.getD_eq_getElem?_getD, h2]
    show F w (i % w.length + t) = w.getD ((i + t) % w.length) 0
    unfold F
    rw [Nat.mod_add_mod]
theorem ext_F {a b : List Int} (h : a.length = b.length) (hf : ∀ i, i < a.length → F a i = F b i) : a = b := by
  apply List.ext_getElem? ; intro i
  by_cases hi : i < a.length
  · rw [F_get hi, F_get (by omega), hf i hi]
  · rw [List.getElem?_eq_none (by omega), List.getElem?_eq_none (by omega)]
theorem rot_rot (w : List Int) (s t : Nat) : rot (rot w s) t = rot w (s + t) := by
  apply ext_F (by simp [rot_length])
  intro i _
  rw [F_rot, F_rot, F_rot]; congr 1; omega
theorem rot_zero (w : List Int) : rot w 0 = w := by
  apply ext_F (by simp [rot_length])
  intro i _
  rw [F_rot, Nat.add_zero]
theorem rot_mod (w : List Int) (t : Nat) : rot w (t % w.length) = rot w t := by
  apply ext_F (by simp [rot_length])
  intro i _
  rw [F_rot, F_rot]
  unfold F
  rw [Nat.add_mod_mod]
theorem rot_len (w : List Int) : rot w w.length = w := by
  rw [← rot_mod, Nat.mod_self, rot_zero]
theorem rot_drop {w : List Int} {t : Nat} (h : t ≤ w.length) : w.drop t ++ w.take t = rot w t := by
  apply ext_F
  · simp [rot_length]; omega
  intro i hi
  have hl : (w.drop t ++ w.take t).length = w.length := by simp; omega
  rw [hl] at hi
  rw [F_rot]
  have h1 := F_get (w := w.drop t ++ w.take t) (i := i) (by omega)
  apply Option.some.inj
  rw [← h1]
  by_cases hd : i < w.length - t
  · rw [List.getElem?_append_left (by simp; omega), List.getElem?_drop, F_get (by omega)]
    congr 2; omega
  · rw [List.getElem?_append_right (by simp; omega), List.getElem?_take, if_pos (by simp; omega), List.length_drop, F_get (by omega)]
    congr 1
    have := F_add w (i - (w.length - t))
    rw [← this]
    congr 1; omega

/-! ### the order of words of one length -/
def lexC : List Int → List Int → Int
  | x :: a, y :: b => if x < y then -1 else if y < x then 1 else lexC a b
  | _, _ => 0
theorem lexC_self (a : List Int) : lexC a a = 0 := by
  induction a with
  | nil => rfl
  | cons x a ih => unfold lexC; rw [if_neg (by omega), if_neg (by omega), ih]
theorem lexC_swap : ∀ (a b : List Int), lexC b a = -lexC a b
  | [], [] => rfl
  | [], _ :: _ => rfl
  | _ :: _, [] => rfl
  | x :: a, y :: b => by
    unfold lexC
    rcases (by omega : x < y ∨ y < x ∨ x = y) with h | h | h
    · rw [if_neg (by omega), if_pos h, if_pos h]; rfl
    · rw [if_pos h, if_neg (by omega), if_pos h]
    · rw [if_neg (by omega), if_neg (by omega), if_neg (by omega), if_neg (by omega), lexC_swap a b]
theorem lexC_cases : ∀ (a b : List Int), lexC a b = -1 ∨ lexC a b = 0 ∨ lexC a b = 1
  | [], _ => Or.inr (Or.inl (by unfold lexC; rfl))
  | _ :: _, [] => Or.inr (Or.inl rfl)
  | x :: a, y :: b => by
    unfold lexC
    split
    · exact Or.inl rfl
    · split
      · exact Or.inr (Or.inr rfl)
      · exact lexC_cases a b
theorem lexC_eq : ∀ {a b : List Int}, a.length = b.length → lexC a b = 0 → a = b
  | [], [], _, _ => rfl
  | [], _ :: _, h, _ => by simp at h
  | _ :: _, [], h, _ => by simp at h
  | x :: a, y :: b, h, h0 => by
    unfold lexC at h0
    split at h0
    · cases h0
    · split at h0
      · cases h0
      · rw [lexC_eq (by simpa using h) h0, show x = y by omega]
theorem lexC_trans : ∀ {a b c : List Int}, a.length = b.length → b.length = c.length → lexC a b ≤ 0 → lexC b c ≤ 0 → lexC a c ≤ 0
  | [], b, c, _, _, _, _ => by unfold lexC; exact Int.le_refl 0
  | x :: a, [], c, h, _, _, _ => by simp at h
  | x :: a, y :: b, [], _, h, _, _ => by simp at h
  | x :: a, y :: b, z :: c, h1, h2, ha, hb => by
    unfold lexC at ha hb ⊢
    rcases (by omega : x < y ∨ y < x ∨ x = y) with h | h | h
    · rcases (by omega : y < z ∨ z < y ∨ y = z) with k | k | k
      · rw [if_pos (by omega)]; omega
      · rw [if_neg (by omega), if_pos k] at hb; omega
      · rw [if_pos (by omega)]; omega
    · rw [if_neg (by omega), if_pos h] at ha; omega
    · rcases (by omega : y < z ∨ z < y ∨ y = z) with k | k | k
      · rw [if_pos (by omega)]; omega
      · rw [if_neg (by omega), if_pos k] at hb; omega
      · rw [if_neg (by omega), if_neg (by omega)] at ha hb
        rw [if_neg (by omega), if_neg (by omega)]
        exact lexC_trans (by simpa using h1) (by simpa using h2) ha hb
/-- less, by the first place where they differ -/
theorem lexC_lt : ∀ {a b : List Int} (k : Nat), a.length = b.length → (∀ i, i < k → a[i]? = b[i]?) → (∃ x y, a[k]? = some x ∧ b[k]? = some y ∧ x < y) → lexC a b = -1
  | [], _, k, _, _, ⟨x, y, h, _⟩ => by simp at h
  | _ :: _, [], k, h, _, _ => by simp at h
  | x :: a, y :: b, 0, h, _, ⟨x', y', h1, h2, hlt⟩ => by
    simp at h1 h2; subst h1 h2
    unfold lexC; rw [if_pos hlt]
  | x :: a, y :: b, k + 1, h, he, ⟨x', y', h1, h2, hlt⟩ => by
    have h0 := he 0 (by omega)
    simp at h0; subst h0
    unfold lexC; rw [if_neg (by omega), if_neg (by omega)]
    exact lexC_lt k (by simpa using h) (fun i hi => by simpa using he (i + 1) (by omega)) ⟨x', y', by simpa using h1, by simpa using h2, hlt⟩
theorem lexC_gt {a b : List Int} (k : Nat) (h : a.length = b.length) (he : ∀ i, i < k → a[i]? = b[i]?) (hx : ∃ x y, a[k]? = some x ∧ b[k]? = some y ∧ y < x) : lexC a b = 1 := by
  obtain ⟨x, y, h1, h2, hlt⟩ := hx
  have := lexC_lt (a := b) (b := a) k h.symm (fun i hi => (he i hi).symm) ⟨y, x, h2, h1, hlt⟩
  rw [lexC_swap a b] at this
  omega
/-- the order of words -/
def cmpW (a b : List Int) : Int := if a.length < b.length then -1 else if b.length < a.length then 1 else lexC a b
theorem cmpW_len {a b : List Int} (h : a.length = b.length) : cmpW a b = lexC a b := by unfold cmpW; rw [if_neg (by omega), if_neg (by omega)]
theorem cmpW_swap (a b : List Int) : cmpW b a = -cmpW a b := by
  unfold cmpW
  rcases Nat.lt_trichotomy a.length b.length with h | h | h
  · rw [if_neg (by omega), if_pos h, if_pos h]; rfl
  · rw [if_neg (by omega), if_neg (by omega), if_neg (by omega), if_neg (by omega), lexC_swap]
  · rw [if_pos h, if_neg (by omega), if_pos h]

/-! ### periods -/
/-- turned by p it is itself -/
def Per (w : List Int) (p : Nat) : Prop := ∀ i, F w (i + p) = F w i
theorem per_len (w : List Int) : Per w w.length := F_add w
theorem per_zero (w : List Int) : Per w 0 := fun _ => rfl
theorem per_rot {w : List Int} {p : Nat} (h : Per w p) : rot w p = w := ext_F (by simp [rot_length]) fun i _ => by rw [F_rot, h]
theorem per_of_rot {w : List Int} {p : Nat} (h : rot w p = w) : Per w p := fun i => by rw [← F_rot, h]
theorem per_add {w : List Int} {p q : Nat} (h : Per w p) (k : Per w q) : Per w (p + q) := fun i => by rw [← Nat.add_assoc, k, h]
theorem per_sub {w : List Int} {p q : Nat} (h : Per w p) (k : Per w q) (hle : p ≤ q) : Per w (q - p) := fun i => by
  rw [← h (i + (q - p)), Nat.add_assoc, show q - p + p = q by omega, k]
theorem per_gcd {w : List Int} : ∀ (n p q : Nat), p + q ≤ n → Per w p → Per w q → Per w (Nat.gcd p q)
  | 0, p, q, h, hp, hq => by
    obtain rfl : p = 0 := by omega
    obtain rfl : q = 0 := by omega
    exact per_zero w
  | n + 1, p, q, h, hp, hq => by
    rcases Nat.eq_zero_or_pos p with rfl | p0
    · rw [Nat.gcd_zero_left]; exact hq
    rcases Nat.eq_zero_or_pos q with rfl | q0
    · rw [Nat.gcd_zero_right]; exact hp
    rcases Nat.le_total p q with hle | hle
    · have := per_gcd n p (q - p) (by omega) hp (per_sub hp hq hle)
      rwa [Nat.gcd_sub_self_right hle] at this
    · have := per_gcd n (p - q) q (by omega) (per_sub hq hp hle) hq
      rwa [Nat.gcd_sub_self_left hle] at this
/-- the least divisor of the length by which a turn changes nothing -/
def IsPer (w : List Int) (p : Nat) : Prop := 1 ≤ p ∧ p ∣ w.length ∧ Per w p ∧ ∀ q, 1 ≤ q → q < p → ¬ (q ∣ w.length ∧ Per w q)
theorem isPer_unique {w : List Int} {p q : Nat} (h : IsPer w p) (k : IsPer w q) : p = q := by
  obtain ⟨h1, h2, h3, h4⟩ := h
  obtain ⟨k1, k2, k3, k4⟩ := k
  rcases Nat.lt_trichotomy p q with c | c | c
  · exact absurd ⟨h2, h3⟩ (k4 p h1 c)
  · exact c
  · exact absurd ⟨k2, k3⟩ (h4 q k1 c)
theorem isPer_least {w : List Int} {p q : Nat} (h : IsPer w p) (hq0 : 1 ≤ q) (hq : Per w q) : p ≤ q := by
  have hg : Per w (Nat.gcd w.length q) := per_gcd _ _ _ (Nat.le_refl _) (per_len w) hq
  have hg0 : 1 ≤ Nat.gcd w.length q := Nat.gcd_pos_of_pos_right _ hq0
  have hle : Nat.gcd w.length q ≤ q := Nat.le_of_dvd hq0 (Nat.gcd_dvd_right _ _)
  rcases Nat.lt_or_ge (Nat.gcd w.length q) p with c | c
  · exact absurd ⟨Nat.gcd_dvd_left _ _, hg⟩ (h.2.2.2 _ hg0 c)
  · omega
/-- the period of a turned word -/
theorem isPer_rot {w : List Int} {p : Nat} (h : IsPer w p) (t : Nat) : IsPer (rot w t) p := by
  have e : ∀ q, Per (rot w t) q ↔ Per w q := fun q => by
    constructor
    · intro k
      have hk : ∀ i, F w (i + t + q) = F w (i + t) := fun i => by
        have := k i
        rw [F_rot, F_rot] at this
        rw [← this]; congr 1; omega
      intro i
      rcases Nat.eq_zero_or_pos w.length with h0 | h0
      · have h1 := List.eq_nil_of_length_eq_zero h0
        subst h1; rfl
      · -- i = (i + t * (len - 1)) + t up to t * len
        have h1 := hk (i + t * (w.length - 1))
        have e1 : i + t * (w.length - 1) + t = i + t * w.length := by
          obtain ⟨m, hm⟩ : ∃ m, w.length = m + 1 := ⟨w.length - 1, by omega⟩
          rw [hm, Nat.add_sub_cancel, Nat.mul_succ]; omega
        rw [e1] at h1
        unfold F at h1 ⊢
        rw [show i + t * w.length + q = i + q + t * w.length by omega, Nat.add_mul_mod_self_right, Nat.add_mul_mod_self_right] at h1
        exact h1
    · intro k i
      rw [F_rot, F_rot, show i + q + t = i + t + q by omega, k]
  obtain ⟨h1, h2, h3, h4⟩ := h
  refine ⟨h1, by rw [rot_length]; exact h2, (e p).2 h3, fun q hq hlt => ?_⟩
  rw [rot_length, e]
  exact h4 q hq hlt
/-- where the piece behind p is the piece ahead of the last p, for a divisor p -/
theorem per_piece {w : List Int} {p : Nat} (hd : p ∣ w.length) (h : ∀ i, i + p < w.length → w[i + p]? = w[i]?) : Per w p := by
  rcases Nat.eq_zero_or_pos w.length with h0 | h0
  · have h1 := List.eq_nil_of_length_eq_zero h0
    subst h1; intro i; rfl
  have hp0 : 0 < p := by
    rcases Nat.eq_zero_or_pos p with rfl | k
    · have := Nat.eq_zero_of_zero_dvd hd; omega
    · exact k
  have hm : ∀ n i, i < n → i < w.length → F w i = F w (i % p) := by
    intro n
    induction n with
    | zero => intro i h; omega
    | succ n ih =>
      intro i hi hil
      rcases Nat.lt_or_ge i p with k | k
      · rw [Nat.mod_eq_of_lt k]
      · have h1 := h (i - p) (by omega)
        rw [show i - p + p = i by omega, F_get hil, F_get (by omega)] at h1
        rw [Option.some.inj h1, ih (i - p) (by omega) (by omega)]
        congr 1
        rw [Nat.mod_eq_sub_mod k]
  intro i
  rw [← F_mod w (i + p), ← F_mod w i, hm _ _ (Nat.lt_succ_self _) (Nat.mod_lt _ h0), hm _ _ (Nat.lt_succ_self _) (Nat.mod_lt _ h0), Nat.mod_mod_of_dvd _ hd, Nat.mod_mod_of_dvd _ hd, Nat.add_mod_right]
theorem piece_per {w : List Int} {p : Nat} (h : Per w p) (i : Nat) (hi : i + p < w.length) : w[i + p]? = w[i]? := by
  rw [F_get hi, F_get (by omega), h]
end Go.Proofs.YtfgoflaeclfggaaGreatDoor.WordM
end
section
namespace Go.Proofs.YtfgoflaeclfggaaGreatDoor.WordM
/-! ### the least turn -/
/-- turned by l it is behind no other turn, and ahead of those by less -/
def IsLeast (w : List Int) (l : Nat) : Prop := l < w.length ∧ ∀ s, s < w.length → lexC (rot w l) (rot w s) ≤ 0 ∧ (s < l → lexC (rot w l) (rot w s) = -1)
theorem rot_same (w : List Int) (s t : Nat) : (rot w s).length = (rot w t).length := by rw [rot_length, rot_length]
theorem isLeast_unique {w : List Int} {l m : Nat} (h : IsLeast w l) (k : IsLeast w m) : l = m := by
  have swap := lexC_swap (rot w l) (rot w m)
  rcases Nat.lt_trichotomy l m with c | c | c
  · have h1 := (h.2 m k.1).1
    have h2 := (k.2 l h.1).2 c
    rw [swap] at h2
    -- lexC l m = 1 but <= 0
    omega
  · exact c
  · have h1 := (k.2 l h.1).1
    have h2 := (h.2 m k.1).2 c
    omega
/-- the reference's way: the best so far -/
def BestTo (w : List Int) (n b : Nat) : Prop := b < n ∧ ∀ s, s < n → lexC (rot w b) (rot w s) ≤ 0 ∧ (s < b → lexC (rot w b) (rot w s) = -1)
theorem best_one (w : List Int) : BestTo w 1 0 := ⟨by omega, fun s hs => ⟨by rw [show s = 0 by omega, lexC_self]; omega, fun h => by omega⟩⟩
theorem best_keep {w : List Int} {n b : Nat} (h : BestTo w n b) (hc : 0 ≤ lexC (rot w n) (rot w b)) : BestTo w (n + 1) b := by
  refine ⟨by have := h.1; omega, fun s hs => ?_⟩
  rcases (by omega : s < n ∨ s = n) with k | rfl
  · exact h.2 s k
  · rw [lexC_swap (rot w s) (rot w b)]
    exact ⟨by omega, fun k => by have := h.1; omega⟩
theorem best_turn {w : List Int} {n b : Nat} (h : BestTo w n b) (hc : lexC (rot w n) (rot w b) < 0) : BestTo w (n + 1) n := by
  have hm : ∀ s, s < n → lexC (rot w n) (rot w s) = -1 := fun s hs => by
    have h1 := (h.2 s hs).1
    have h2 : lexC (rot w n) (rot w s) ≤ 0 := lexC_trans (rot_same w n b) (rot_same w b s) (by omega) h1
    rcases lexC_cases (rot w n) (rot w s) with k | k | k
    · exact k
    · have e := lexC_eq (rot_same w n s) k
      rw [← e, lexC_swap (rot w n) (rot w b)] at h1
      omega
    · omega
  refine ⟨by omega, fun s hs => ?_⟩
  rcases (by omega : s < n ∨ s = n) with k | rfl
  · exact ⟨by rw [hm s k]; omega, fun _ => hm s k⟩
  · exact ⟨by rw [lexC_self]; omega, fun k => by omega⟩
theorem best_all {w : List Int} {b : Nat} (h : BestTo w w.length b) : IsLeast w b := h
theorem least_exists {w : List Int} (h : 0 < w.length) : ∃ l, IsLeast w l := by
  have : ∀ n, 1 ≤ n → ∃ b, BestTo w n b := by
    intro n
    induction n with
    | zero => intro h; omega
    | succ n ih =>
      intro _
      rcases Nat.eq_zero_or_pos n with rfl | k
      · exact ⟨0, best_one w⟩
      · obtain ⟨b, hb⟩ := ih k
        rcases Int.lt_or_le (lexC (rot w n) (rot w b)) 0 with c | c
        · exact ⟨n, best_turn hb c⟩
        · exact ⟨b, best_keep hb c⟩
  exact this _ h
/-- ruled out: another turn is ahead of it -/
def Out (w : List Int) (s : Nat) : Prop := ∃ t, t < w.length ∧ lexC (rot w t) (rot w s) = -1
theorem out_not {w : List Int} {l : Nat} (h : IsLeast w l) (k : Out w l) : False := by
  obtain ⟨t, ht, e⟩ := k
  have h1 := (h.2 t ht).1
  rw [lexC_swap (rot w t) (rot w l), e] at h1
  omega
/-- the two turns by s + d and t + d, where those by s and t are alike up to k and then part -/
theorem less_shift {w : List Int} {s t k d : Nat} (h0 : 0 < w.length) (hk : k < w.length) (hd : d ≤ k) (he : ∀ i, i < k → F w (s + i) = F w (t + i)) (hlt : F w (s + k) < F w (t + k)) : Out w (t + d) := by
  refine ⟨(s + d) % w.length, Nat.mod_lt _ h0, ?_⟩
  rw [rot_mod]
  refine lexC_lt (k - d) (rot_same w _ _) (fun i hi => ?_) ⟨F w (s + k), F w (t + k), ?_, ?_, hlt⟩
  · rw [rot_get (by omega), rot_get (by omega)]
    have := he (i + d) (by omega)
    rw [show i + (s + d) = s + (i + d) by omega, show i + (t + d) = t + (i + d) by omega, this]
  · rw [rot_get (by omega)]; congr 2; omega
  · rw [rot_get (by omega)]; congr 2; omega
/-- the search's state: all below rival but best are ruled out; same symbols were alike -/
structure Duel (w : List Int) (best rival same : Nat) : Prop where
  lt : best < rival
  out : ∀ s, s < rival → s < w.length → s ≠ best → Out w s
  like : ∀ i, i < same → F w (best + i) = F w (rival + i)
theorem duel_start (w : List Int) : Duel w 0 1 0 := ⟨by omega, fun s h _ k => by omega, fun i h => by omega⟩
theorem duel_same {w : List Int} {best rival same : Nat} (h : Duel w best rival same) (he : F w (best + same) = F w (rival + same)) : Duel w best rival (same + 1) :=
  ⟨h.lt, h.out, fun i hi => by
    rcases (by omega : i < same ∨ i = same) with k | rfl
    · exact h.like i k
    · exact he⟩
theorem duel_less {w : List Int} {best rival same : Nat} (h : Duel w best rival same) (hs : same < w.length) (hlt : F w (best + same) < F w (rival + same)) : Duel w best (rival + same + 1) 0 :=
  ⟨by have := h.lt; omega, fun s hs1 hs2 hs3 => by
    rcases Nat.lt_or_ge s rival with k | k
    · exact h.out s k hs2 hs3
    · have := less_shift (d := s - rival) (by omega) hs (by omega) h.like hlt
      rwa [show rival + (s - rival) = s by omega] at this, fun i hi => by omega⟩
theorem duel_more {w : List Int} {best rival same : Nat} (h : Duel w best rival same) (hs : same < w.length) (hlt : F w (rival + same) < F w (best + same)) : Duel w rival (max (best + same) rival + 1) 0 :=
  ⟨by have := Nat.le_max_right (best + same) rival; omega, fun s hs1 hs2 hs3 => by
    have hmx : s ≤ best + same ∨ s ≤ rival := by
      rcases Nat.le_total (best + same) rival with c | c
      · rw [Nat.max_eq_right c] at hs1; omega
      · rw [Nat.max_eq_left c] at hs1; omega
    have hbr := h.lt
    rcases (by omega : (best ≤ s ∧ s ≤ best + same) ∨ (s < rival ∧ s ≠ best) ∨ s = rival) with k | k | k
    · have := less_shift (d := s - best) (by omega) hs (by omega) (fun i hi => (h.like i hi).symm) hlt
      rwa [show best + (s - best) = s by omega] at this
    · exact h.out s k.1 hs2 k.2
    · omega, fun i hi => by omega⟩
theorem duel_done {w : List Int} {best rival same l : Nat} (h : Duel w best rival same) (hr : w.length ≤ rival) (hl : IsLeast w l) : best = l := by
  apply Decidable.byContradiction
  intro e
  exact out_not hl (h.out l (by have := hl.1; omega) hl.1 (by omega))
theorem duel_alike {w : List Int} {best rival same l : Nat} (h : Duel w best rival same) (hs : w.length ≤ same) (hl : IsLeast w l) : best = l := by
  apply Decidable.byContradiction
  intro e
  rcases Nat.lt_or_ge l rival with k | k
  · exact out_not hl (h.out l k hl.1 (by omega))
  · -- the turn by l less (rival - best) is the same
    have hlt := h.lt
    have e1 : rot w best = rot w rival := by
      apply ext_F (rot_same _ _ _)
      intro i hi
      rw [rot_length] at hi
      rw [F_rot, F_rot]
      have := h.like i (by omega)
      rwa [Nat.add_comm best, Nat.add_comm rival] at this
    have e2 : rot w (l - (rival - best)) = rot w l := by
      have := congrArg (fun x => rot x (l - rival)) e1
      simp only [rot_rot] at this
      rw [show best + (l - rival) = l - (rival - best) by omega, show rival + (l - rival) = l by omega] at this
      exact this
    have h1 := (hl.2 (l - (rival - best)) (by have := hl.1; omega)).2 (by omega)
    rw [e2, lexC_self] at h1
    omega
/-- the least turn of a turned word is the least turn -/
theorem least_rot {w : List Int} {l m t : Nat} (h : IsLeast w l) (k : IsLeast (rot w t) m) : rot (rot w t) m = rot w l := by
  have hw : 0 < w.length := by have := h.1; omega
  have h1 : lexC (rot (rot w t) m) (rot w l) ≤ 0 := by
    -- l = t + s around
    have hs : ∃ s, s < w.length ∧ rot (rot w t) s = rot w l := by
      refine ⟨(l + t * (w.length - 1)) % w.length, Nat.mod_lt _ hw, ?_⟩
      have e := rot_mod (rot w t) (l + t * (w.length - 1))
      rw [rot_length] at e
      rw [e, rot_rot, ← rot_mod w (t + _)]
      have e1 : t + (l + t * (w.length - 1)) = l + t * w.length := by
        obtain ⟨j, hj⟩ : ∃ j, w.length = j + 1 := ⟨w.length - 1, by omega⟩
        rw [hj, Nat.add_sub_cancel, Nat.mul_succ]; omega
      rw [e1, Nat.add_mul_mod_self_right, rot_mod]
    obtain ⟨s, hs1, hs2⟩ := hs
    rw [← hs2]
    exact (k.2 s (by rw [rot_length]; exact hs1)).1
  have h2 : lexC (rot w l) (rot (rot w t) m) ≤ 0 := by
    rw [rot_rot, ← rot_mod w (t + m)]
    exact (h.2 _ (Nat.mod_lt _ hw)).1
  rw [lexC_swap (rot (rot w t) m) (rot w l)] at h2
  exact lexC_eq (by simp [rot_length]) (by omega)
end Go.Proofs.YtfgoflaeclfggaaGreatDoor.WordM
end
section
namespace Go.Proofs.YtfgoflaeclfggaaGreatDoor.WordM
/-! ### words over k symbols, and their numbers -/
def okW (k : Nat) (l : List Int) : Prop := ∀ x ∈ l, 0 ≤ x ∧ x < (k : Int)
def valW (k : Nat) : List Int → Nat
  | [] => 0
  | x :: l => x.toNat * k ^ l.length + valW k l
theorem okW_nil (k : Nat) : okW k [] := fun x h => by cases h
theorem okW_app {k : Nat} {a b : List Int} (ha : okW k a) (hb : okW k b) : okW k (a ++ b) := fun x h => by
  rcases List.mem_append.1 h with h | h
  · exact ha x h
  · exact hb x h
theorem okW_take {k : Nat} {a : List Int} (ha : okW k a) (n : Nat) : okW k (a.take n) := fun x h => ha x (List.mem_of_mem_take h)
theorem okW_drop {k : Nat} {a : List Int} (ha : okW k a) (n : Nat) : okW k (a.drop n) := fun x h => ha x (List.mem_of_mem_drop h)
theorem okW_rep {k : Nat} {x : Int} (hx : 0 ≤ x ∧ x < (k : Int)) (n : Nat) : okW k (List.replicate n x) := fun y h => by
  rw [List.eq_of_mem_replicate h]; exact hx
theorem valW_app (k : Nat) : ∀ (a b : List Int), valW k (a ++ b) = valW k a * k ^ b.length + valW k b
  | [], b => by simp [valW]
  | x :: a, b => by
    show x.toNat * k ^ (a ++ b).length + valW k (a ++ b) = (x.toNat * k ^ a.length + valW k a) * k ^ b.length + valW k b
    rw [valW_app k a b, List.length_append, Nat.pow_add, Nat.add_mul, Nat.mul_assoc, Nat.add_assoc]
theorem valW_snoc (k : Nat) (a : List Int) (x : Int) : valW k (a ++ [x]) = valW k a * k + x.toNat := by
  rw [valW_app]; simp [valW]
theorem valW_lt {k : Nat} : ∀ {a : List Int}, okW k a → valW k a < k ^ a.length
  | [], _ => by simp [valW]
  | x :: a, h => by
    have hx := h x (List.mem_cons_self ..)
    have ih := valW_lt (a := a) (fun y hy => h y (List.mem_cons_of_mem _ hy))
    show x.toNat * k ^ a.length + valW k a < k ^ (a.length + 1)
    rw [Nat.pow_succ]
    have h1 : (x.toNat + 1) * k ^ a.length ≤ k * k ^ a.length := Nat.mul_le_mul_right _ (by omega)
    rw [Nat.add_mul, Nat.one_mul] at h1
    rw [Nat.mul_comm (k ^ a.length) k]
    omega
theorem valW_zero (k n : Nat) : valW k (List.replicate n 0) = 0 := by
  induction n with
  | zero => rfl
  | succ n ih => rw [List.replicate_succ]; show (0 : Int).toNat * _ + valW k _ = 0; rw [ih]; simp
theorem valW_full {k : Nat} (hk : 1 ≤ k) (n : Nat) : valW k (List.replicate n ((k : Int) - 1)) + 1 = k ^ n := by
  induction n with
  | zero => rfl
  | succ n ih =>
    rw [List.replicate_succ]
    show ((k : Int) - 1).toNat * k ^ (List.replicate n ((k : Int) - 1)).length + valW k _ + 1 = k ^ (n + 1)
    rw [Nat.add_assoc, ih, List.length_replicate, Nat.pow_succ, show ((k : Int) - 1).toNat = k - 1 by omega]
    have : (k - 1) * k ^ n + k ^ n = (k - 1 + 1) * k ^ n := by rw [Nat.add_mul, Nat.one_mul]
    rw [this, show k - 1 + 1 = k by omega, Nat.mul_comm]
/-- the order of words of one length is that of their numbers -/
theorem lex_val {k : Nat} : ∀ {a b : List Int}, a.length = b.length → okW k a → okW k b → (lexC a b = -1 ∧ valW k a < valW k b) ∨ (lexC a b = 0 ∧ valW k a = valW k b) ∨ (lexC a b = 1 ∧ valW k b < valW k a)
  | [], [], _, _, _ => Or.inr (Or.inl ⟨rfl, rfl⟩)
  | [], _ :: _, h, _, _ => by simp at h
  | _ :: _, [], h, _, _ => by simp at h
  | x :: a, y :: b, h, ha, hb => by
    have hx := ha x (List.mem_cons_self ..)
    have hy := hb y (List.mem_cons_self ..)
    have ha' : okW k a := fun z hz => ha z (List.mem_cons_of_mem _ hz)
    have hb' : okW k b := fun z hz => hb z (List.mem_cons_of_mem _ hz)
    have hl : a.length = b.length := by simpa using h
    have la := valW_lt ha'
    have lb := valW_lt hb'
    have ih := lex_val hl ha' hb'
    show (lexC (x :: a) (y :: b) = -1 ∧ x.toNat * k ^ a.length + valW k a < y.toNat * k ^ b.length + valW k b) ∨ (_ ∧ x.toNat * k ^ a.length + valW k a = y.toNat * k ^ b.length + valW k b) ∨ (_ ∧ y.toNat * k ^ b.length + valW k b < x.toNat * k ^ a.length + valW k a)
    unfold lexC
    rw [← hl] at lb ⊢
    generalize k ^ a.length = P at *
    rcases (by omega : x < y ∨ y < x ∨ x = y) with c | c | c
    · left
      rw [if_pos c]
      refine ⟨rfl, ?_⟩
      have h1 : (x.toNat + 1) * P ≤ y.toNat * P := Nat.mul_le_mul_right _ (by omega)
      rw [Nat.add_mul, Nat.one_mul] at h1
      omega
    · right; right
      rw [if_neg (by omega), if_pos c]
      refine ⟨rfl, ?_⟩
      have h1 : (y.toNat + 1) * P ≤ x.toNat * P := Nat.mul_le_mul_right _ (by omega)
      rw [Nat.add_mul, Nat.one_mul] at h1
      omega
    · subst c
      rw [if_neg (by omega), if_neg (by omega)]
      rcases ih with ⟨h1, h2⟩ | ⟨h1, h2⟩ | ⟨h1, h2⟩
      · exact Or.inl ⟨h1, by omega⟩
      · exact Or.inr (Or.inl ⟨h1, by omega⟩)
      · exact Or.inr (Or.inr ⟨h1, by omega⟩)
theorem valW_inj {k : Nat} {a b : List Int} (h : a.length = b.length) (ha : okW k a) (hb : okW k b) (e : valW k a = valW k b) : a = b := by
  rcases lex_val h ha hb with ⟨_, h2⟩ | ⟨h1, _⟩ | ⟨_, h2⟩
  · omega
  · exact lexC_eq h h1
  · omega
/-- the word behind it: the last symbol below k - 1 is raised, those behind it are 0; or, where there is none, the first word of the next length -/
def IsNext (k : Nat) (w x : List Int) : Prop :=
  (∃ (i : Nat) (y : Int), w[i]? = some y ∧ y < (k : Int) - 1 ∧ w = w.take i ++ y :: List.replicate (w.length - 1 - i) ((k : Int) - 1) ∧ x = w.take i ++ (y + 1) :: List.replicate (w.length - 1 - i) 0) ∨
  (w = List.replicate w.length ((k : Int) - 1) ∧ x = List.replicate (w.length + 1) 0)
theorem isNext_ok {k : Nat} (hk : 1 ≤ k) {w x : List Int} (h : IsNext k w x) (hw : okW k w) : okW k x := by
  rcases h with ⟨i, y, hy, hlt, _, hx⟩ | ⟨_, hx⟩
  · rw [hx]
    have := hw y (List.mem_of_getElem? hy)
    refine okW_app (okW_take hw _) (fun z hz => ?_)
    rcases List.mem_cons.1 hz with rfl | hz
    · omega
    · exact okW_rep (k := k) (x := 0) (by omega) _ z hz
  · rw [hx]; exact okW_rep (by omega) _
theorem isNext_val {k : Nat} (hk : 1 ≤ k) {w x : List Int} (h : IsNext k w x) (hw : okW k w) :
    (x.length = w.length ∧ valW k x = valW k w + 1) ∨ (x.length = w.length + 1 ∧ valW k x = 0 ∧ valW k w + 1 = k ^ w.length) := by
  rcases h with ⟨i, y, hy, hlt, hw2, hx⟩ | ⟨hw2, hx⟩
  · left
    have hi : i < w.length := by
      obtain ⟨h, _⟩ := List.getElem?_eq_some_iff.1 hy
      exact h
    have hy0 := hw y (List.mem_of_getElem? hy)
    have hl : (w.take i).length = i := by rw [List.length_take]; omega
    refine ⟨by rw [hx]; simp; omega, ?_⟩
    rw [hx]
    have e : valW k w = valW k (w.take i ++ y :: List.replicate (w.length - 1 - i) ((k : Int) - 1)) := by rw [← hw2]
    rw [e, valW_app, valW_app]
    show _ + ((y + 1).toNat * k ^ (List.replicate (w.length - 1 - i) 0).length + valW k (List.replicate (w.length - 1 - i) 0)) = _ + (y.toNat * k ^ (List.replicate (w.length - 1 - i) ((k : Int) - 1)).length + valW k (List.replicate (w.length - 1 - i) ((k : Int) - 1))) + 1
    have hf := valW_full hk (w.length - 1 - i)
    rw [valW_zero, List.length_cons, List.length_cons, List.length_replicate, List.length_replicate, show (y + 1).toNat = y.toNat + 1 by omega, Nat.add_mul, Nat.one_mul]
    omega
  · right
    refine ⟨by rw [hx, List.length_replicate], by rw [hx, valW_zero], ?_⟩
    have e : valW k w = valW k (List.replicate w.length ((k : Int) - 1)) := by rw [← hw2]
    rw [e, valW_full hk]
theorem isNext_unique {k : Nat} (hk : 1 ≤ k) {w x y : List Int} (hw : okW k w) (h : IsNext k w x) (g : IsNext k w y) : x = y := by
  have h1 := isNext_val hk h hw
  have g1 := isNext_val hk g hw
  have h2 := isNext_ok hk h hw
  have g2 := isNext_ok hk g hw
  have hl := valW_lt hw
  have hlx := valW_lt h2
  have hly := valW_lt g2
  rcases h1 with ⟨a1, a2⟩ | ⟨a1, a2, a3⟩
  · rcases g1 with ⟨b1, b2⟩ | ⟨b1, b2, b3⟩
    · exact valW_inj (by omega) h2 g2 (by omega)
    · rw [a1] at hlx; omega
  · rcases g1 with ⟨b1, b2⟩ | ⟨b1, b2, b3⟩
    · rw [b1] at hly; omega
    · exact valW_inj (by omega) h2 g2 (by omega)
theorem isNext_cmp {k : Nat} (hk : 1 ≤ k) {w x : List Int} (h : IsNext k w x) (hw : okW k w) : cmpW w x = -1 := by
  rcases isNext_val hk h hw with ⟨a1, a2⟩ | ⟨a1, a2, a3⟩
  · rw [cmpW_len a1.symm]
    rcases lex_val a1.symm hw (isNext_ok hk h hw) with c | c | c
    · exact c.1
    · omega
    · omega
  · unfold cmpW; rw [if_pos (by omega)]
/-- none between -/
theorem isNext_between {k : Nat} (hk : 1 ≤ k) {w x v : List Int} (h : IsNext k w x) (hw : okW k w) (hv : okW k v) (hc : cmpW w v = -1) : cmpW x v ≤ 0 := by
  have hx := isNext_ok hk h hw
  have hvl := valW_lt hv
  have fin : x.length = v.length → valW k x ≤ valW k v → cmpW x v ≤ 0 := fun hl hle => by
    rw [cmpW_len hl]
    rcases lex_val hl hx hv with c | c | c <;> omega
  have hshort : x.length < v.length → cmpW x v ≤ 0 := fun hl => by unfold cmpW; rw [if_pos hl]; omega
  rcases isNext_val hk h hw with ⟨a1, a2⟩ | ⟨a1, a2, a3⟩
  · rcases Nat.lt_trichotomy w.length v.length with c | c | c
    · exact hshort (by omega)
    · refine fin (by omega) ?_
      rw [cmpW_len c] at hc
      rcases lex_val c hw hv with d | d | d <;> omega
    · unfold cmpW at hc; rw [if_neg (by omega), if_pos c] at hc; omega
  · rcases Nat.lt_trichotomy w.length v.length with c | c | c
    · rcases (by omega : x.length < v.length ∨ x.length = v.length) with d | d
      · exact hshort d
      · exact fin d (by omega)
    · rw [cmpW_len c] at hc
      rw [← c] at hvl
      rcases lex_val c hw hv with d | d | d <;> omega
    · unfold cmpW at hc; rw [if_neg (by omega), if_pos c] at hc; omega
/-! ### which lists are words -/
def badAt (k : Int) (x : Int) : Bool := decide (x < 0) || decide (k ≤ x)
/-- where a list is refused: the place, and the error's number -/
def chkW (k : Int) (w : List Int) : Option (Nat × Nat) :=
  if k < 1 ∨ 4 < k then some (0, 3) else if 4096 < w.length then some (0, 4) else (w.findIdx? (badAt k)).map fun i => (i, 2)
theorem chkW_none {k : Int} {w : List Int} (h : chkW k w = none) : ∃ n : Nat, k = n ∧ 1 ≤ n ∧ n ≤ 4 ∧ w.length ≤ 4096 ∧ okW n w := by
  unfold chkW at h
  split at h
  · cases h
  · split at h
    · cases h
    · rw [Option.map_eq_none_iff, List.findIdx?_eq_none_iff] at h
      refine ⟨k.toNat, by omega, by omega, by omega, by omega, fun x hx => ?_⟩
      have := h x hx
      unfold badAt at this
      simp at this
      omega
theorem chkW_ok {k : Nat} {w : List Int} (h1 : 1 ≤ k) (h4 : k ≤ 4) (hl : w.length ≤ 4096) (ho : okW k w) : chkW k w = none := by
  unfold chkW
  rw [if_neg (by omega), if_neg (by omega), Option.map_eq_none_iff, List.findIdx?_eq_none_iff]
  intro x hx
  have := ho x hx
  unfold badAt
  simp
  omega
/-- the place and the number of At -/
def atBad (k n : Int) (i : Nat) : Option (Nat × Nat) :=
  if k < 1 ∨ 4 < k ∨ n < 0 then some (0, 3) else if 256 < n then some (0, 4) else if k.toNat ^ n.toNat ≤ i then some (0, 3) else none
theorem at_step {k p i i0 : Nat} {l : List Int} (hl : l.length = p) (h : valW k l + k ^ p * i = i0) : valW k ((((i % k : Nat) : Int)) :: l) + k ^ (p + 1) * (i / k) = i0 := by
  show (((i % k : Nat) : Int)).toNat * k ^ l.length + valW k l + _ = _
  rw [Int.toNat_natCast, hl, Nat.pow_succ, Nat.mul_assoc]
  have e : k * (i / k) + i % k = i := Nat.div_add_mod i k
  have : i % k * k ^ p + k ^ p * (k * (i / k)) = k ^ p * i := by
    rw [Nat.mul_comm (i % k), ← Nat.mul_add, Nat.add_comm, e]
  omega
theorem at_done {k n i i0 : Nat} {l : List Int} (h : valW k l + k ^ n * i = i0) (hlt : i0 < k ^ n) : valW k l = i0 := by
  rcases Nat.eq_zero_or_pos i with rfl | c
  · simpa using h
  · have : k ^ n * 1 ≤ k ^ n * i := Nat.mul_le_mul_left _ c
    omega
/-! ### repeats -/
def timesW (w : List Int) : Nat → List Int
  | 0 => []
  | n + 1 => timesW w n ++ w
theorem timesW_length (w : List Int) (n : Nat) : (timesW w n).length = n * w.length := by
  induction n with
  | zero => simp [timesW]
  | succ n ih => rw [timesW, List.length_append, ih, Nat.succ_mul]
theorem timesW_get (w : List Int) (n : Nat) : ∀ i, i < n * w.length → (timesW w n)[i]? = some (F w i) := by
  induction n with
  | zero => intro i h; simp at h
  | succ n ih =>
    intro i hi
    rw [Nat.succ_mul] at hi
    unfold timesW
    rcases Nat.lt_or_ge i (n * w.length) with c | c
    · rw [List.getElem?_append_left (by rw [timesW_length]; exact c), ih i c]
    · rw [List.getElem?_append_right (by rw [timesW_length]; exact c), timesW_length, F_get (by omega)]
      congr 1
      unfold F
      rw [Nat.mul_comm, Nat.sub_mul_mod (by rw [Nat.mul_comm]; exact c)]
theorem times_unique {w x : List Int} {n : Nat} (hl : x.length = n * w.length) (h : ∀ i, i < x.length → x[i]? = some (F w i)) : x = timesW w n := by
  apply List.ext_getElem?
  intro i
  by_cases hi : i < x.length
  · rw [h i hi, timesW_get w n i (by omega)]
  · rw [List.getElem?_eq_none (by omega), List.getElem?_eq_none (by rw [timesW_length]; omega)]
theorem F_times {w : List Int} {n : Nat} (hn : 1 ≤ n) (i : Nat) : F (timesW w n) i = F w i := by
  rcases Nat.eq_zero_or_pos w.length with h | h
  · have h1 := List.eq_nil_of_length_eq_zero h
    subst h1
    have : timesW [] n = [] := List.eq_nil_of_length_eq_zero (by rw [timesW_length]; simp)
    rw [this]
  · have hp : 0 < n * w.length := Nat.mul_pos hn h
    have h2 : i % (n * w.length) < n * w.length := Nat.mod_lt _ hp
    have h1 := timesW_get w n _ h2
    unfold F
    rw [List.getD_eq_getElem?_getD, timesW_length, h1]
    show F w _ = _
    unfold F
    rw [Nat.mod_mod_of_dvd _ (Nat.dvd_mul_left _ _)]
/-- a repeated word's period is the word's -/
theorem isPer_times {w : List Int} {p n : Nat} (hn : 1 ≤ n) (h : IsPer w p) : IsPer (timesW w n) p := by
  have e : ∀ q, Per (timesW w n) q ↔ Per w q := fun q => by
    unfold Per
    constructor
    · intro k i; rw [← F_times hn, ← F_times (w := w) hn i, k]
    · intro k i; rw [F_times hn, F_times hn, k]
  refine ⟨h.1, by rw [timesW_length]; exact Nat.dvd_trans h.2.1 (Nat.dvd_mul_left _ _), (e p).2 h.2.2.1, fun q hq hlt => ?_⟩
  rintro ⟨_, hk⟩
  have := isPer_least h hq ((e q).1 hk)
  omega
end Go.Proofs.YtfgoflaeclfggaaGreatDoor.WordM
end
section
namespace Go.Proofs.YtfgoflaeclfggaaGreatDoor
open Go.RowKit WordM

/-- of two numbers -/
def cmpInt (x y : Int) : Int := if x < y then -1 else if y < x then 1 else 0
theorem cmpInt_lt {x y : Int} (h : x < y) : cmpInt x y = -1 := by unfold cmpInt; rw [if_pos h]
theorem cmpInt_gt {x y : Int} (h : y < x) : cmpInt x y = 1 := by unfold cmpInt; rw [if_neg (by omega), if_pos h]
theorem cmpInt_self (x : Int) : cmpInt x x = 0 := by unfold cmpInt; rw [if_neg (by omega), if_neg (by omega)]
theorem isNaN_any (x : Int) (w : World) : Calls Tryz.prog 113 #[.int .i64 x] w fun e w' => e = .returned (.bool false) ∧ w = w' := by
  go_enter Tryz.func113, Tryz.ntmps113
  go_wp2
  go_ret
  exact ⟨rfl, rfl⟩
theorem compare_any (x y : Int) (w : World) : Calls Tryz.prog 61 #[.int .i64 x, .int .i64 y] w fun e w' => e = .returned (.int .i64 (cmpInt x y)) ∧ w = w' := by
  rcases (by omega : x < y ∨ y < x ∨ x = y) with h | h | h
  · have hc := cmpInt_lt h
    have HC := Lib.hid hc
    clear hc
    go_enter Tryz.func61, Tryz.ntmps61
    go_wp2_with (go_at_call 113; refine (isNaN_any _ _).mono ?_; rintro e w' ⟨rfl, rfl⟩)
    go_ret
    exact ⟨by rw [HC.out]; rfl, rfl⟩
  · have hc := cmpInt_gt h
    have HC := Lib.hid hc
    have h' : ¬ x < y := by omega
    clear hc
    go_enter Tryz.func61, Tryz.ntmps61
    go_wp2_with (go_at_call 113; refine (isNaN_any _ _).mono ?_; rintro e w' ⟨rfl, rfl⟩)
    go_ret
    exact ⟨by rw [HC.out]; rfl, rfl⟩
  · subst h
    have hc := cmpInt_self x
    have HC := Lib.hid hc
    clear hc
    go_enter Tryz.func61, Tryz.ntmps61
    go_wp2_with (go_at_call 113; refine (isNaN_any _ _).mono ?_; rintro e w' ⟨rfl, rfl⟩)
    go_ret
    exact ⟨by rw [HC.out]; rfl, rfl⟩

theorem get_take_alike {a b : List Int} {j : Nat} (h : a.take j = b.take j) : ∀ i, i < j → a[i]? = b[i]? := fun i hi => by
  have e := congrArg (fun l : List Int => l[i]?) h
  simpa [List.getElem?_take, hi] using e
set_option maxHeartbeats 1000000 in
theorem scompare_any (p q : Option Addr) (n m c d : Nat) (l k : List Int) (w : World) (hn : n = l.length) (hm : m = l.length) (hlen : l.length = k.length) (h : IntV w.heap.size w p c l) (h' : IntV w.heap.size w q d k) :
    Calls Tryz.prog 62 #[.slice p n c, .slice q m d] w fun e w' => e = .returned (.int .i64 (lexC l k)) ∧ w = w' := by
  subst hm
  obtain ⟨L, hL⟩ : ∃ L, L = l.length := ⟨_, rfl⟩
  rw [← hL] at hn ⊢
  subst hn
  have hcap := h.cap
  have hle := h.le
  have hdle := h'.le
  have hdcap := h'.cap
  rw [← hL] at hle
  rw [← hlen, ← hL] at hdle
  unfold maxLen at hcap hdcap
  have H := Lib.hid (And.intro h (And.intro h' (And.intro hL hlen)))
  clear h h' hL hlen
  go_enter Tryz.func62, Tryz.ntmps62
  go_wp2_with fail
  go_loop [11] (fun v => ∃ j : Nat, j ≤ n ∧ v = .int .i64 j ∧ Hid (l.take j = k.take j)) (fun i => n - (intOf i).toNat)
  case atStart => exact ⟨0, Nat.zero_le _, rfl, by show _ = _; simp⟩
  case round =>
    obtain ⟨j, hj, rfl, ht⟩ := hrel
    by_cases hlt : j < n
    · have hnl := H.out.2.2.1
      have hkl := H.out.2.2.2
      have hne : l ≠ [] := by rintro rfl; simp at hnl; omega
      have hne' : k ≠ [] := by rintro rfl; simp at hkl; simp [hkl] at hnl; omega
      obtain ⟨b, off, rfl, hb, hc⟩ := H.out.1.cell hne
      obtain ⟨b', off', rfl, hb', hc'⟩ := H.out.2.1.cell hne'
      obtain ⟨x, hx⟩ := getI (l := l) (k := j) (by omega)
      obtain ⟨y, hy⟩ := getI (l := k) (k := j) (by omega)
      have h1 := hc j x hx
      have h2 := hc' j y hy
      have HX := Lib.hid (And.intro hx hy)
      clear hc hc' hx hy hne hne' hnl hkl
      rcases (by omega : x < y ∨ y < x ∨ x = y) with hxy | hxy | hxy
      · have hlx : lexC l k = -1 := lexC_lt j H.out.2.2.2 (get_take_alike ht.out) ⟨x, y, HX.out.1, HX.out.2, hxy⟩
        have hc := compare_any x y w
        rw [cmpInt_lt hxy] at hc
        have HC := Lib.hid (And.intro hc hlx)
        clear hc hlx
        go_wp2_with fail
        refine HC.out.1.mono ?_
        rintro e w' ⟨rfl, rfl⟩
        go_wp2_with fail
        go_ret
        exact ⟨by rw [HC.out.2]; rfl, rfl⟩
      · have hlx : lexC l k = 1 := lexC_gt j H.out.2.2.2 (get_take_alike ht.out) ⟨x, y, HX.out.1, HX.out.2, hxy⟩
        have hc := compare_any x y w
        rw [cmpInt_gt hxy] at hc
        have HC := Lib.hid (And.intro hc hlx)
        clear hc hlx
        go_wp2_with fail
        refine HC.out.1.mono ?_
        rintro e w' ⟨rfl, rfl⟩
        go_wp2_with fail
        go_ret
        exact ⟨by rw [HC.out.2]; rfl, rfl⟩
      · subst hxy
        have hc := compare_any x x w
        rw [cmpInt_self] at hc
        have HC := Lib.hid hc
        clear hc
        go_wp2_with fail
        refine HC.out.mono ?_
        rintro e w' ⟨rfl, rfl⟩
        go_wp2_with fail
        go_round
        case rel => exact ⟨j + 1, by omega, by go_num, take_alike HX.out.1 HX.out.2 ht.out⟩
        case measure => simp [intOf]; omega
    · obtain rfl : j = n := by omega
      have hlx : lexC l k = 0 := by
        have e := ht.out
        rw [H.out.2.2.1, List.take_length, H.out.2.2.2, List.take_length] at e
        rw [e, lexC_self]
      have HC := Lib.hid hlx
      clear hlx
      go_wp2_with fail
      go_ret
      exact ⟨by rw [HC.out]; rfl, rfl⟩
/-- slices.Equal: the same text as edenraw.Ints -/
theorem equal_q (p q : Option Addr) (n m c d : Nat) (l k : List Int) (w : World) (hn : n = l.length) (hm : m = k.length) (hlen : l.length = k.length) (h : IntV w.heap.size w p c l) (h' : IntV w.heap.size w q d k) :
    Calls Tryz.prog 63 #[.slice p n c, .slice q m d] w (Quiet (.bool (sameI l k)) w) := by
  subst hn hm
  have hcap := h.cap
  have hle := h.le
  have hdle := h'.le
  have hdcap := h'.cap
  unfold maxLen at hcap hdcap
  have H := Lib.hid (And.intro h h')
  clear h h'
  obtain ⟨n, hn⟩ : ∃ n, n = l.length := ⟨_, rfl⟩
  rw [← hlen, ← hn]
  rw [← hn] at hle
  rw [← hlen, ← hn] at hdle
  have HN := Lib.hid (And.intro hn hlen)
  clear hn hlen
  go_enter Tryz.func63, Tryz.ntmps63
  go_wp2_with fail
  go_loopw [13] (fun v wx => ∃ j : Nat, j ≤ n ∧ v = .int .i64 j ∧ Hid (∃ a, wx = w.drewN a) ∧ Hid (l.take j = k.take j)) (fun i _ => n - (intOf i).toNat)
  case atStart => exact ⟨0, Nat.zero_le _, rfl, ⟨0, rfl⟩, by show _ = _; simp⟩
  case round =>
    obtain ⟨j, hj, rfl, hbx, ht⟩ := hrel
    by_cases hlt : j < n
    · have hnl := HN.out.1
      have hkl := HN.out.2
      have hne : l ≠ [] := by rintro rfl; simp at hnl; omega
      have hne' : k ≠ [] := by rintro rfl; simp at hkl; simp [hkl] at hnl; omega
      have hbw : Below w.heap.size w wr := hbx.out.elim fun a e => e ▸ below_drewN (Below.refl _ _) a
      obtain ⟨b, off, rfl, hb, hc⟩ := (H.out.1.below hbw).cell hne
      obtain ⟨b', off', rfl, hb', hc'⟩ := (H.out.2.below hbw).cell hne'
      obtain ⟨x, hx⟩ := getI (l := l) (k := j) (by omega)
      obtain ⟨y, hy⟩ := getI (l := k) (k := j) (by omega)
      have h1 := hc j x hx
      have h2 := hc' j y hy
      have HX := Lib.hid (And.intro hx hy)
      clear hbw hc hc' hx hy hne hne' hnl hkl
      by_cases hxy : x = y
      · subst hxy
        go_wp2_with fail
        go_quiet (fail)
        go_wp2_with fail
        go_roundw
        case rel => exact ⟨j + 1, by omega, by go_num, quiet_more hbx.out _, take_alike HX.out.1 HX.out.2 ht.out⟩
        case measure => simp [intOf]; omega
      · have hne1 : ((x : Int) == (y : Int)) = false := by simpa using hxy
        have hs : sameI l k = false := sameI_ne (by rintro rfl; have := HX.out; rw [this.1] at this; exact hxy (Option.some.inj this.2))
        have HS := Lib.hid hs
        clear hs
        go_wp2_with fail
        go_quiet (fail)
        go_wp2_with fail
        go_ret
        exact ⟨by rw [HS.out]; rfl, quiet_more hbx.out _⟩
    · obtain rfl : j = n := by omega
      have hs : sameI l k = true := sameI_eq (by
        have e := ht.out
        have e1 := HN.out
        rwa [e1.1, List.take_length, e1.2, List.take_length] at e)
      have HS := Lib.hid hs
      clear hs
      go_wp2_with fail
      go_ret
      exact ⟨by rw [HS.out]; rfl, hbx.out⟩
end Go.Proofs.YtfgoflaeclfggaaGreatDoor
end
section
namespace Go.Proofs.YtfgoflaeclfggaaGreatDoor
open Go.RowKit Go.Extern.Stop Go.Stop Go.Extern WordM

def wordOp : ByteArray := { data := #[119, 111, 114, 100] }
theorem alpha_yes (k : Int) (w : World) (h1 : 1 ≤ k) (h4 : k ≤ 4) : Calls Tryz.prog 60 #[.int .i64 k] w fun e w' => e = .returned (.bool true) ∧ w = w' := by
  go_enter Tryz.func60, Tryz.ntmps60
  go_wp2
  go_ret
  exact ⟨rfl, rfl⟩
theorem alpha_no (k : Int) (w : World) (h : k < 1 ∨ 4 < k) : Calls Tryz.prog 60 #[.int .i64 k] w fun e w' => e = .returned (.bool false) ∧ w = w' := by
  rcases h with h | h
  · have h1 : ¬ 1 ≤ k := by omega
    go_enter Tryz.func60, Tryz.ntmps60
    go_wp2
    go_ret
    exact ⟨rfl, rfl⟩
  · have h1 : 1 ≤ k := by omega
    have h2 : ¬ k ≤ 4 := by omega
    go_enter Tryz.func60, Tryz.ntmps60
    go_wp2
    go_ret
    exact ⟨rfl, rfl⟩

theorem check_ok (k : Int) (p : Option Addr) (n c : Nat) (l : List Int) (w : World) (hn : n = l.length) (h : IntV w.heap.size w p c l) (hc : chkW k l = none) :
    Calls Tryz.prog 21 #[.int .i64 k, .slice p n c] w (Tells .nilIface w) := by
  obtain ⟨k, rfl, h1, h4, hl, ho⟩ := chkW_none hc
  have hle := h.le
  have hcap := h.cap
  unfold maxLen at hcap
  have hn4 : n ≤ 4096 := by omega
  have hnc : n ≤ c := by omega
  have H := Lib.hid (And.intro h (And.intro ho hn))
  clear h hc hl ho hn hle
  go_enter Tryz.func21, Tryz.ntmps21
  go_wp2_with fail
  refine (alpha_yes _ _ (by omega) (by omega)).mono ?_
  rintro e w' ⟨rfl, rfl⟩
  go_wp2_with fail
  go_loop [17] (fun v => ∃ j : Nat, j ≤ n ∧ v = .int .i64 (j : Int)) (fun v => n - (intOf v).toNat)
  case atStart => exact ⟨0, Nat.zero_le _, rfl⟩
  case round =>
    obtain ⟨j, hj, rfl⟩ := hrel
    by_cases hlt : j < n
    · have hnl := H.out.2.2
      have hne : l ≠ [] := by rintro rfl; simp at hnl; omega
      obtain ⟨b, off, rfl, hb, hc⟩ := H.out.1.cell hne
      obtain ⟨x, hx⟩ := getI (l := l) (k := j) (by omega)
      have hcx := hc j x hx
      have hxo := H.out.2.1 x (List.mem_of_getElem? hx)
      have hx1 : ¬ x < 0 := by omega
      have hx2 : ¬ (k : Int) ≤ x := by omega
      clear hc hx hne hnl hxo
      go_wp2_with fail
      go_round
      case rel => exact ⟨j + 1, by omega, by go_num⟩
      case measure => simp [intOf]; omega
    · obtain rfl : j = n := by omega
      go_wp2_with fail
      go_ret
      exact ⟨rfl, Below.refl _ _⟩

theorem check_bad (k : Int) (p : Option Addr) (n c : Nat) (l : List Int) (w : World) (A : Nat → Addr) (hr : Roots w A) (hn : n = l.length) (h : IntV w.heap.size w p c l) (i m : Nat) (hc : chkW k l = some (i, m)) :
    Calls Tryz.prog 21 #[.int .i64 k, .slice p n c] w (Err1 w A wordOp i m) := by
  unfold chkW at hc
  have hle := h.le
  have hcap := h.cap
  unfold maxLen at hcap
  have hnc : n ≤ c := by omega
  split at hc
  · obtain ⟨rfl, rfl⟩ := Prod.mk.inj (Option.some.inj hc)
    have HR := Lib.hid hr
    clear h hn hle hr hc
    go_enter Tryz.func21, Tryz.ntmps21
    go_wp2_with fail
    refine (alpha_no _ _ (by omega)).mono ?_
    rintro e w' ⟨rfl, rfl⟩
    go_wp2_with fail
    refine (new_at wordOp 0 3 _ A HR.out (by omega)).mono ?_
    rintro e w1 ⟨b, rfl, hl1, hb1⟩
    have H := Lib.hid (And.intro hl1 hb1)
    clear hl1 hb1
    go_wp2_with fail
    go_ret
    exact ⟨_, rfl, H.out.1, H.out.2⟩
  · split at hc
    · obtain ⟨rfl, rfl⟩ := Prod.mk.inj (Option.some.inj hc)
      have HR := Lib.hid hr
      have hn4 : 4096 < n := by omega
      clear h hn hle hr hc
      go_enter Tryz.func21, Tryz.ntmps21
      go_wp2_with fail
      refine (alpha_yes _ _ (by omega) (by omega)).mono ?_
      rintro e w' ⟨rfl, rfl⟩
      go_wp2_with fail
      refine (new_at wordOp 0 4 _ A HR.out (by omega)).mono ?_
      rintro e w1 ⟨b, rfl, hl1, hb1⟩
      have H := Lib.hid (And.intro hl1 hb1)
      clear hl1 hb1
      go_wp2_with fail
      go_ret
      exact ⟨_, rfl, H.out.1, H.out.2⟩
    · obtain ⟨i', hi, he⟩ := Option.map_eq_some_iff.1 hc
      obtain ⟨rfl, rfl⟩ := Prod.mk.inj he
      obtain ⟨hil, hbad, hall⟩ := List.findIdx?_eq_some_iff_getElem.1 hi
      have hn4 : n ≤ 4096 := by omega
      have hin : i' < n := by omega
      have H := Lib.hid (And.intro h (And.intro hr (And.intro hn (And.intro hbad hall))))
      have hk1 : 1 ≤ k := by omega
      have hk4 : k ≤ 4 := by omega
      clear h hr hn hle hc hi he hbad hall
      go_enter Tryz.func21, Tryz.ntmps21
      go_wp2_with fail
      refine (alpha_yes _ _ hk1 hk4).mono ?_
      rintro e w' ⟨rfl, rfl⟩
      go_wp2_with fail
      go_loop [17] (fun v => ∃ j : Nat, j ≤ i' ∧ v = .int .i64 (j : Int)) (fun v => n - (intOf v).toNat)
      case atStart => exact ⟨0, Nat.zero_le _, rfl⟩
      case round =>
        obtain ⟨j, hj, rfl⟩ := hrel
        have hne : l ≠ [] := by rintro rfl; simp at hil
        obtain ⟨b, off, rfl, hb, hc⟩ := H.out.1.cell hne
        by_cases hlt : j < i'
        · have hx : l[j]? = some l[j] := List.getElem?_eq_getElem (by omega)
          have hg := H.out.2.2.2.2 j hlt
          obtain ⟨x, hxx⟩ : ∃ x, l[j] = x := ⟨_, rfl⟩
          rw [hxx] at hx hg
          have hcx := hc j x hx
          unfold badAt at hg
          simp at hg
          have hx1 : ¬ x < 0 := by omega
          have hx2 : ¬ k ≤ x := by omega
          clear hc hx hne hg hxx
          go_wp2_with fail
          go_round
          case rel => exact ⟨j + 1, by omega, by go_num⟩
          case measure => simp [intOf]; omega
        · obtain rfl : j = i' := by omega
          have hx : l[j]? = some l[j] := List.getElem?_eq_getElem (by omega)
          have hg := H.out.2.2.2.1
          obtain ⟨x, hxx⟩ : ∃ x, l[j] = x := ⟨_, rfl⟩
          rw [hxx] at hx hg
          have hcx := hc j x hx
          unfold badAt at hg
          simp at hg
          clear hc hx hne hxx
          rcases Int.lt_or_le x 0 with hx1 | hx1
          · clear hg
            go_wp2_with fail
            refine (new_at wordOp j 2 _ A H.out.2.1 (by omega)).mono ?_
            rintro e w1 ⟨b, rfl, hl1, hb1⟩
            have H := Lib.hid (And.intro hl1 hb1)
            clear hl1 hb1
            go_wp2_with fail
            go_ret
            exact ⟨_, rfl, H.out.1, H.out.2⟩
          · have hx2 : k ≤ x := by omega
            have hx3 : ¬ x < 0 := by omega
            clear hg
            go_wp2_with fail
            refine (new_at wordOp j 2 _ A H.out.2.1 (by omega)).mono ?_
            rintro e w1 ⟨b, rfl, hl1, hb1⟩
            have H := Lib.hid (And.intro hl1 hb1)
            clear hl1 hb1
            go_wp2_with fail
            go_ret
            exact ⟨_, rfl, H.out.1, H.out.2⟩
end Go.Proofs.YtfgoflaeclfggaaGreatDoor
end
section
namespace Go.Proofs.YtfgoflaeclfggaaGreatDoor
open Go.RowKit Go.Extern WordM NatM

/-- an Err of package word: its number k at place pl -/
def RefErrW (w : World) (pl k : Int) (v : Value) (w' : World) : Prop :=
  ∃ g g', v = .agg #[.int .i64 k, .slice (some ⟨g, 0, none⟩) 1 1, .slice (some ⟨g', 0, none⟩) 1 1] ∧ (w.heap.size ≤ g ∧ w.heap.size ≤ g') ∧ WantV w' (some ⟨g, 0, none⟩) (some ⟨g', 0, none⟩) 1 1 [(wordOp, pl)] ∧ Below w.heap.size w w'
theorem WantV.put3 {w : World} {g g' h : Nat} {op : ByteArray} {pl : Int} (hv : WantV w (some ⟨g, 0, none⟩) (some ⟨g', 0, none⟩) 1 1 [(op, pl)]) (hg : g ≠ h) (hg' : g' ≠ h) (a b c : Value) : WantV (put3 w h a b c) (some ⟨g, 0, none⟩) (some ⟨g', 0, none⟩) 1 1 [(op, pl)] := by
  obtain ⟨b1, o1, e1, l1, c1⟩ := hv.ops (by simp)
  obtain ⟨b2, o2, e2, l2, c2⟩ := hv.ats (by simp)
  obtain ⟨rfl, rfl⟩ : g = b1 ∧ 0 = o1 := by simpa using e1
  obtain ⟨rfl, rfl⟩ : g' = b2 ∧ 0 = o2 := by simpa using e2
  exact WantV.one (by rw [put3_size]; exact l1) (by rw [put3_size]; exact l2) ((put3_cell w h a b c _ hg).trans (c1 0 _ rfl)) ((put3_cell w h a b c _ hg').trans (c2 0 _ rfl))
def RefErrW1 (w : World) (pl k : Int) (e : Ending) (w' : World) : Prop := ∃ v, e = .returned v ∧ RefErrW w pl k v w'
/-- refused: the zero value v0, and the error -/
def RefErrW2 (w : World) (v0 : Value) (pl k : Int) (e : Ending) (w' : World) : Prop := ∃ v, e = .returned (.tuple #[v0, v]) ∧ RefErrW w pl k v w'

set_option maxRecDepth 100000 in
set_option maxHeartbeats 4000000 in
theorem check_ref_ok (k : Int) (p : Option Addr) (n c : Nat) (l : List Int) (w : World) (hn : n = l.length) (h : IntV w.heap.size w p c l) (hc : chkW k l = none) :
    Calls Tryz.prog 22 #[.int .i64 k, .slice p n c] w (Tells noErr w) := by
  obtain ⟨k, rfl, h1, h4, hl, ho⟩ := chkW_none hc
  have hle := h.le
  have hcap := h.cap
  unfold maxLen at hcap
  have hn4 : n ≤ 4096 := by omega
  have hnc : n ≤ c := by omega
  have hk1 : ¬ (k : Int) < 1 := by omega
  have hk4 : ¬ (4 : Int) < k := by omega
  have H := Lib.hid (And.intro h (And.intro ho hn))
  clear h hc hl ho hn hle
  go_enter Tryz.func22, Tryz.ntmps22
  go_wp2_with fail
  obtain ⟨w0, hw0⟩ : ∃ w0, w0 = w.alloc (.cells #[.int .i64 0, .slice none 0 0, .slice none 0 0] 56) := ⟨_, rfl⟩
  have hb0 : Below w.heap.size w w0 := by rw [hw0]; exact (Below.refl _ _).alloc (Nat.le_refl _) _
  have hs0 : w.heap.size < w0.heap.size := by rw [hw0]; simp
  have hE0 : Err3 w0 w.heap.size (.int .i64 0) (.slice none 0 0) (.slice none 0 0) := by rw [hw0]; exact Err3.new w
  rw [← hw0]
  have HE := Lib.hid (And.intro hE0 hb0)
  clear hw0 hE0 hb0
  go_loop [5] (fun v => ∃ j : Nat, j ≤ n ∧ v = .int .i64 (j : Int)) (fun v => n - (intOf v).toNat)
  case atStart => exact ⟨0, Nat.zero_le _, rfl⟩
  case round =>
    obtain ⟨j, hj, rfl⟩ := hrel
    by_cases hlt : j < n
    · have hnl := H.out.2.2
      have hne : l ≠ [] := by rintro rfl; simp at hnl; omega
      obtain ⟨b, off, rfl, hb, hc⟩ := H.out.1.cell hne
      obtain ⟨x, hx⟩ := getI (l := l) (k := j) (by omega)
      have hcx : w0.cell? ⟨b, off + j, none⟩ = some (.int .i64 x) := (HE.out.2.cell (p := ⟨b, off + j, none⟩) hb).trans (hc j x hx)
      have hxo := H.out.2.1 x (List.mem_of_getElem? hx)
      have hx1 : ¬ x < 0 := by omega
      have hx2 : ¬ (k : Int) ≤ x := by omega
      clear hc hx hne hnl hxo
      go_wp2_with fail
      go_round
      case rel => exact ⟨j + 1, by omega, by go_num⟩
      case measure => simp [intOf]; omega
    · obtain rfl : j = n := by omega
      obtain ⟨⟨hf0, hf1, hf2⟩, hc0, hc1, hc2⟩ := HE.out.1.facts
      go_wp2_with fail
      refine bodyPost_ret (v := noErr) (by simp [results, Tryz.results22, go_sem, hc0, hc1, hc2, noErr]) rfl ⟨rfl, ?_⟩
      exact put3_below HE.out.2 (Nat.le_refl _) _ _ _

set_option maxRecDepth 100000 in
set_option maxHeartbeats 8000000 in
theorem check_ref_bad (k : Int) (p : Option Addr) (n c : Nat) (l : List Int) (w : World) (hn : n = l.length) (h : IntV w.heap.size w p c l) (i m : Nat) (hc : chkW k l = some (i, m)) :
    Calls Tryz.prog 22 #[.int .i64 k, .slice p n c] w (RefErrW1 w i m) := by
  unfold chkW at hc
  have hle := h.le
  have hcap := h.cap
  unfold maxLen at hcap
  have hnc : n ≤ c := by omega
  split at hc
  · obtain ⟨rfl, rfl⟩ := Prod.mk.inj (Option.some.inj hc)
    rename_i hk
    clear h hn hle hc
    rcases Int.lt_or_le k 1 with hk1 | hk1
    · go_enter Tryz.func22, Tryz.ntmps22
      go_wp2_with fail
      obtain ⟨w0, hw0⟩ : ∃ w0, w0 = w.alloc (.cells #[.int .i64 0, .slice none 0 0, .slice none 0 0] 56) := ⟨_, rfl⟩
      have hb0 : Below w.heap.size w w0 := by rw [hw0]; exact (Below.refl _ _).alloc (Nat.le_refl _) _
      have hs0 : w.heap.size < w0.heap.size := by rw [hw0]; simp
      have hE0 : Err3 w0 w.heap.size (.int .i64 0) (.slice none 0 0) (.slice none 0 0) := by rw [hw0]; exact Err3.new w
      rw [← hw0]
      have HE := Lib.hid (And.intro hE0 hb0)
      clear hw0 hE0 hb0
      refine (raw_fresh wordOp 0 3 w0).mono ?_
      rintro e w2 ⟨g, g', rfl, ⟨hg1, hg2, hg3, hg4⟩, hcg, hcg', hb2⟩
      obtain ⟨⟨hf0, hf1, hf2⟩, hc0, hc1, hc2⟩ := (HE.out.1.next hb2).facts
      have HB2 := Lib.hid (And.intro hcg (And.intro hcg' (HE.out.2.trans (hb2.mono (by omega)))))
      clear hb2 hcg hcg'
      go_wp2_with fail
      refine bodyPost_ret (v := .agg #[.int .i64 3, .slice (some ⟨g, 0, none⟩) 1 1, .slice (some ⟨g', 0, none⟩) 1 1]) (by simp [results, Tryz.results22, go_sem, hc0, hc1, hc2]) rfl ⟨_, rfl, g, g', rfl, ⟨by omega, by omega⟩, ?_, ?_⟩
      · exact WantV.one (by simp; omega) (by simp; omega) ((put3_cell w2 w.heap.size _ _ _ _ (by simp; omega)).trans HB2.out.1) ((put3_cell w2 w.heap.size _ _ _ _ (by simp; omega)).trans HB2.out.2.1)
      · exact put3_below HB2.out.2.2 (Nat.le_refl _) _ _ _
    · have hk4 : 4 < k := by omega
      have hk1' : ¬ k < 1 := by omega
      clear hk
      go_enter Tryz.func22, Tryz.ntmps22
      go_wp2_with fail
      obtain ⟨w0, hw0⟩ : ∃ w0, w0 = w.alloc (.cells #[.int .i64 0, .slice none 0 0, .slice none 0 0] 56) := ⟨_, rfl⟩
      have hb0 : Below w.heap.size w w0 := by rw [hw0]; exact (Below.refl _ _).alloc (Nat.le_refl _) _
      have hs0 : w.heap.size < w0.heap.size := by rw [hw0]; simp
      have hE0 : Err3 w0 w.heap.size (.int .i64 0) (.slice none 0 0) (.slice none 0 0) := by rw [hw0]; exact Err3.new w
      rw [← hw0]
      have HE := Lib.hid (And.intro hE0 hb0)
      clear hw0 hE0 hb0
      refine (raw_fresh wordOp 0 3 w0).mono ?_
      rintro e w2 ⟨g, g', rfl, ⟨hg1, hg2, hg3, hg4⟩, hcg, hcg', hb2⟩
      obtain ⟨⟨hf0, hf1, hf2⟩, hc0, hc1, hc2⟩ := (HE.out.1.next hb2).facts
      have HB2 := Lib.hid (And.intro hcg (And.intro hcg' (HE.out.2.trans (hb2.mono (by omega)))))
      clear hb2 hcg hcg'
      go_wp2_with fail
      refine bodyPost_ret (v := .agg #[.int .i64 3, .slice (some ⟨g, 0, none⟩) 1 1, .slice (some ⟨g', 0, none⟩) 1 1]) (by simp [results, Tryz.results22, go_sem, hc0, hc1, hc2]) rfl ⟨_, rfl, g, g', rfl, ⟨by omega, by omega⟩, ?_, ?_⟩
      · exact WantV.one (by simp; omega) (by simp; omega) ((put3_cell w2 w.heap.size _ _ _ _ (by simp; omega)).trans HB2.out.1) ((put3_cell w2 w.heap.size _ _ _ _ (by simp; omega)).trans HB2.out.2.1)
      · exact put3_below HB2.out.2.2 (Nat.le_refl _) _ _ _
  · split at hc
    · obtain ⟨rfl, rfl⟩ := Prod.mk.inj (Option.some.inj hc)
      have hn4 : 4096 < n := by omega
      have hk1 : ¬ k < 1 := by omega
      have hk4 : ¬ 4 < k := by omega
      clear h hn hle hc
      go_enter Tryz.func22, Tryz.ntmps22
      go_wp2_with fail
      obtain ⟨w0, hw0⟩ : ∃ w0, w0 = w.alloc (.cells #[.int .i64 0, .slice none 0 0, .slice none 0 0] 56) := ⟨_, rfl⟩
      have hb0 : Below w.heap.size w w0 := by rw [hw0]; exact (Below.refl _ _).alloc (Nat.le_refl _) _
      have hs0 : w.heap.size < w0.heap.size := by rw [hw0]; simp
      have hE0 : Err3 w0 w.heap.size (.int .i64 0) (.slice none 0 0) (.slice none 0 0) := by rw [hw0]; exact Err3.new w
      rw [← hw0]
      have HE := Lib.hid (And.intro hE0 hb0)
      clear hw0 hE0 hb0
      refine (raw_fresh wordOp 0 4 w0).mono ?_
      rintro e w2 ⟨g, g', rfl, ⟨hg1, hg2, hg3, hg4⟩, hcg, hcg', hb2⟩
      obtain ⟨⟨hf0, hf1, hf2⟩, hc0, hc1, hc2⟩ := (HE.out.1.next hb2).facts
      have HB2 := Lib.hid (And.intro hcg (And.intro hcg' (HE.out.2.trans (hb2.mono (by omega)))))
      clear hb2 hcg hcg'
      go_wp2_with fail
      refine bodyPost_ret (v := .agg #[.int .i64 4, .slice (some ⟨g, 0, none⟩) 1 1, .slice (some ⟨g', 0, none⟩) 1 1]) (by simp [results, Tryz.results22, go_sem, hc0, hc1, hc2]) rfl ⟨_, rfl, g, g', rfl, ⟨by omega, by omega⟩, ?_, ?_⟩
      · exact WantV.one (by simp; omega) (by simp; omega) ((put3_cell w2 w.heap.size _ _ _ _ (by simp; omega)).trans HB2.out.1) ((put3_cell w2 w.heap.size _ _ _ _ (by simp; omega)).trans HB2.out.2.1)
      · exact put3_below HB2.out.2.2 (Nat.le_refl _) _ _ _
    · obtain ⟨i', hi, he⟩ := Option.map_eq_some_iff.1 hc
      obtain ⟨rfl, rfl⟩ := Prod.mk.inj he
      obtain ⟨hil, hbad, hall⟩ := List.findIdx?_eq_some_iff_getElem.1 hi
      have hn4 : n ≤ 4096 := by omega
      have hin : i' < n := by omega
      have H := Lib.hid (And.intro h (And.intro hn (And.intro hbad hall)))
      have hk1 : ¬ k < 1 := by omega
      have hk4 : ¬ 4 < k := by omega
      clear h hn hle hc hi he hbad hall
      go_enter Tryz.func22, Tryz.ntmps22
      go_wp2_with fail
      obtain ⟨w0, hw0⟩ : ∃ w0, w0 = w.alloc (.cells #[.int .i64 0, .slice none 0 0, .slice none 0 0] 56) := ⟨_, rfl⟩
      have hb0 : Below w.heap.size w w0 := by rw [hw0]; exact (Below.refl _ _).alloc (Nat.le_refl _) _
      have hs0 : w.heap.size < w0.heap.size := by rw [hw0]; simp
      have hE0 : Err3 w0 w.heap.size (.int .i64 0) (.slice none 0 0) (.slice none 0 0) := by rw [hw0]; exact Err3.new w
      rw [← hw0]
      have HE := Lib.hid (And.intro hE0 hb0)
      clear hw0 hE0 hb0
      go_loop [5] (fun v => ∃ j : Nat, j ≤ i' ∧ v = .int .i64 (j : Int)) (fun v => n - (intOf v).toNat)
      case atStart => exact ⟨0, Nat.zero_le _, rfl⟩
      case round =>
        obtain ⟨j, hj, rfl⟩ := hrel
        have hne : l ≠ [] := by rintro rfl; simp at hil
        obtain ⟨b, off, rfl, hb, hc⟩ := H.out.1.cell hne
        by_cases hlt : j < i'
        · have hx : l[j]? = some l[j] := List.getElem?_eq_getElem (by omega)
          have hg := H.out.2.2.2 j hlt
          obtain ⟨x, hxx⟩ : ∃ x, l[j] = x := ⟨_, rfl⟩
          rw [hxx] at hx hg
          have hcx : w0.cell? ⟨b, off + j, none⟩ = some (.int .i64 x) := (HE.out.2.cell (p := ⟨b, off + j, none⟩) hb).trans (hc j x hx)
          unfold badAt at hg
          simp at hg
          have hx1 : ¬ x < 0 := by omega
          have hx2 : ¬ k ≤ x := by omega
          clear hc hx hne hg hxx
          go_wp2_with fail
          go_round
          case rel => exact ⟨j + 1, by omega, by go_num⟩
          case measure => simp [intOf]; omega
        · obtain rfl : j = i' := by omega
          have hx : l[j]? = some l[j] := List.getElem?_eq_getElem (by omega)
          have hg := H.out.2.2.1
          obtain ⟨x, hxx⟩ : ∃ x, l[j] = x := ⟨_, rfl⟩
          rw [hxx] at hx hg
          have hcx : w0.cell? ⟨b, off + j, none⟩ = some (.int .i64 x) := (HE.out.2.cell (p := ⟨b, off + j, none⟩) hb).trans (hc j x hx)
          unfold badAt at hg
          simp at hg
          clear hc hx hne hxx
          rcases Int.lt_or_le x 0 with hx1 | hx1
          · clear hg
            go_wp2_with fail
            refine (raw_fresh wordOp j 2 w0).mono ?_
            rintro e w2 ⟨g, g', rfl, ⟨hg1, hg2, hg3, hg4⟩, hcg, hcg', hb2⟩
            obtain ⟨⟨hf0, hf1, hf2⟩, hc0, hc1, hc2⟩ := (HE.out.1.next hb2).facts
            have HB2 := Lib.hid (And.intro hcg (And.intro hcg' (HE.out.2.trans (hb2.mono (by omega)))))
            clear hb2 hcg hcg'
            go_wp2_with fail
            refine bodyPost_ret (v := .agg #[.int .i64 2, .slice (some ⟨g, 0, none⟩) 1 1, .slice (some ⟨g', 0, none⟩) 1 1]) (by simp [results, Tryz.results22, go_sem, hc0, hc1, hc2]) rfl ⟨_, rfl, g, g', rfl, ⟨by omega, by omega⟩, ?_, ?_⟩
            · exact WantV.one (by simp; omega) (by simp; omega) ((put3_cell w2 w.heap.size _ _ _ _ (by simp; omega)).trans HB2.out.1) ((put3_cell w2 w.heap.size _ _ _ _ (by simp; omega)).trans HB2.out.2.1)
            · exact put3_below HB2.out.2.2 (Nat.le_refl _) _ _ _
          · have hx1' : ¬ x < 0 := by omega
            have hx2 : k ≤ x := by omega
            clear hg
            go_wp2_with fail
            refine (raw_fresh wordOp j 2 w0).mono ?_
            rintro e w2 ⟨g, g', rfl, ⟨hg1, hg2, hg3, hg4⟩, hcg, hcg', hb2⟩
            obtain ⟨⟨hf0, hf1, hf2⟩, hc0, hc1, hc2⟩ := (HE.out.1.next hb2).facts
            have HB2 := Lib.hid (And.intro hcg (And.intro hcg' (HE.out.2.trans (hb2.mono (by omega)))))
            clear hb2 hcg hcg'
            go_wp2_with fail
            refine bodyPost_ret (v := .agg #[.int .i64 2, .slice (some ⟨g, 0, none⟩) 1 1, .slice (some ⟨g', 0, none⟩) 1 1]) (by simp [results, Tryz.results22, go_sem, hc0, hc1, hc2]) rfl ⟨_, rfl, g, g', rfl, ⟨by omega, by omega⟩, ?_, ?_⟩
            · exact WantV.one (by simp; omega) (by simp; omega) ((put3_cell w2 w.heap.size _ _ _ _ (by simp; omega)).trans HB2.out.1) ((put3_cell w2 w.heap.size _ _ _ _ (by simp; omega)).trans HB2.out.2.1)
            · exact put3_below HB2.out.2.2 (Nat.le_refl _) _ _ _
end Go.Proofs.YtfgoflaeclfggaaGreatDoor
end
section
namespace Go.Proofs.YtfgoflaeclfggaaGreatDoor
open Go.RowKit Go.Extern WordM NatM

theorem bad_no (a b : Value) (w : World) : Calls Tryz.prog 68 #[.agg #[.int .i64 0, a, b]] w (Tells (.bool false) w) := by
  go_enter Tryz.func68, Tryz.ntmps68
  go_wp2_with fail
  go_ret
  exact ⟨rfl, (Below.refl _ _).alloc (Nat.le_refl _) _⟩
theorem bad_yes (k : Int) (hk : k ≠ 0) (a b : Value) (w : World) : Calls Tryz.prog 68 #[.agg #[.int .i64 k, a, b]] w (Tells (.bool true) w) := by
  have hk' : (k != 0) = true := by simpa using hk
  have hk2 : (k == 0) = false := by simpa using hk
  go_enter Tryz.func68, Tryz.ntmps68
  go_wp2_with fail
  go_ret
  exact ⟨rfl, (Below.refl _ _).alloc (Nat.le_refl _) _⟩
theorem chkW_num {k : Int} {l : List Int} {i m : Nat} (h : chkW k l = some (i, m)) : 1 ≤ m ∧ m ≤ 11 := by
  unfold chkW at h
  split at h
  · have h1 := (Prod.mk.inj (Option.some.inj h)).2; omega
  · split at h
    · have h1 := (Prod.mk.inj (Option.some.inj h)).2; omega
    · obtain ⟨j, _, he⟩ := Option.map_eq_some_iff.1 h
      have h1 := (Prod.mk.inj he).2; omega
theorem WantV.next {w w' : World} {po pa : Option Addr} {a b : Nat} {L : List (ByteArray × Int)} (hb : Below w.heap.size w w') (h : WantV w po pa a b L) : WantV w' po pa a b L := h.below hb

set_option maxRecDepth 100000 in
set_option maxHeartbeats 4000000 in
theorem text_ref_bad (k : Int) (p : Option Addr) (n c : Nat) (l : List Int) (w : World) (hn : n = l.length) (h : IntV w.heap.size w p c l) (i m : Nat) (hc : chkW k l = some (i, m)) :
    Calls Tryz.prog 30 #[.int .i64 k, .slice p n c] w (RefErrW2 w (.string { data := #[] }) i m) := by
  have H := Lib.hid (And.intro h hn)
  have hm := (chkW_num hc).1
  have HC := Lib.hid hc
  clear h hc hn
  go_enter Tryz.func30, Tryz.ntmps30
  go_wp2_with fail
  obtain ⟨w0, hw0⟩ : ∃ w0, w0 = w.alloc (.cells #[.int .i64 0, .slice none 0 0, .slice none 0 0] 56) := ⟨_, rfl⟩
  have hb0 : Below w.heap.size w w0 := by rw [hw0]; exact (Below.refl _ _).alloc (Nat.le_refl _) _
  have hs0 : w.heap.size < w0.heap.size := by rw [hw0]; simp
  have hE0 : Err3 w0 w.heap.size (.int .i64 0) (.slice none 0 0) (.slice none 0 0) := by rw [hw0]; exact Err3.new w
  rw [← hw0]
  have HE := Lib.hid (And.intro hE0 hb0)
  clear hw0 hE0 hb0
  refine (check_ref_bad k p n c l w0 H.out.2 (H.out.1.next HE.out.2) i m HC.out).mono ?_
  rintro e w1 ⟨v, rfl, g, g', rfl, ⟨hg1, hg2⟩, hw, hb1⟩
  have hb1' := hb1
  obtain ⟨wB, hwB⟩ : ∃ x, x = w1.alloc (.cells #[.int .i64 (m : Int), .slice (some ⟨g, 0, none⟩) 1 1, .slice (some ⟨g', 0, none⟩) 1 1] 56) := ⟨_, rfl⟩
  have hbB : Below w1.heap.size w1 wB := by rw [hwB]; exact (Below.refl _ _).alloc (Nat.le_refl _) _
  have hs1 := hb1.size
  have hsB : w1.heap.size < wB.heap.size := by rw [hwB]; simp
  have hEB : Err3 wB w1.heap.size (.int .i64 (m : Int)) (.slice (some ⟨g, 0, none⟩) 1 1) (.slice (some ⟨g', 0, none⟩) 1 1) := by rw [hwB]; exact ⟨heap_newN w1 _⟩
  have hE1 := (HE.out.1.next hb1).next hbB
  have hbw : Below w.heap.size w wB := (HE.out.2.trans (hb1.mono (by omega))).trans (hbB.mono (by omega))
  obtain ⟨_, hk0, hk1, hk2⟩ := hEB.facts
  have H1 := Lib.hid (And.intro hE1 (And.intro hEB (And.intro hbw (hw.next hbB))))
  clear hb1 hb1' hbB hEB hE1 hbw hw
  go_upto_region 2 with fail
  rw [← hwB]
  clear hwB
  go_wp2_with fail
  refine (bad_yes (m : Int) (by omega) (.slice (some ⟨g, 0, none⟩) 1 1) (.slice (some ⟨g', 0, none⟩) 1 1) wB).mono ?_
  rintro e w2 ⟨rfl, hb2⟩
  obtain ⟨⟨hf0, hf1, hf2⟩, hc0, hc1, hc2⟩ := (H1.out.1.next hb2).facts
  obtain ⟨_, hg0, hg1, hg2⟩ := (H1.out.2.1.next hb2).facts
  have hs2 := hb2.size
  have H2 := Lib.hid (And.intro (H1.out.2.2.1.trans (hb2.mono (by omega))) (H1.out.2.2.2.next hb2))
  clear hb2 hk0 hk1 hk2
  go_wp2_with fail
  go_region
  all_goals
    go_wp2_with fail
    refine bodyPost_ret (v := .tuple #[.string { data := #[] }, .agg #[.int .i64 (m : Int), .slice (some ⟨g, 0, none⟩) 1 1, .slice (some ⟨g', 0, none⟩) 1 1]]) (by simp [results, Tryz.results30, go_sem, hc0, hc1, hc2]) rfl ⟨_, rfl, g, g', rfl, ⟨by omega, by omega⟩, ?_, ?_⟩
    · exact (H2.out.2.put3 (h := w.heap.size) (by omega) (by omega) (.int .i64 (m : Int)) (.slice (some ⟨g, 0, none⟩) 1 1) (.slice (some ⟨g', 0, none⟩) 1 1)).below ((Below.refl _ _).drew)
    · exact (put3_below H2.out.1 (Nat.le_refl _) _ _ _).drew

set_option maxRecDepth 100000 in
set_option maxHeartbeats 4000000 in
theorem next_ref_bad (k : Int) (p : Option Addr) (n c : Nat) (l : List Int) (w : World) (hn : n = l.length) (h : IntV w.heap.size w p c l) (i m : Nat) (hc : chkW k l = some (i, m)) :
    Calls Tryz.prog 23 #[.int .i64 k, .slice p n c] w (RefErrW2 w (.slice none 0 0) i m) := by
  have H := Lib.hid (And.intro h hn)
  have hm := (chkW_num hc).1
  have HC := Lib.hid hc
  clear h hc hn
  go_enter Tryz.func23, Tryz.ntmps23
  go_wp2_with fail
  obtain ⟨w0, hw0⟩ : ∃ w0, w0 = w.alloc (.cells #[.int .i64 0, .slice none 0 0, .slice none 0 0] 56) := ⟨_, rfl⟩
  have hb0 : Below w.heap.size w w0 := by rw [hw0]; exact (Below.refl _ _).alloc (Nat.le_refl _) _
  have hs0 : w.heap.size < w0.heap.size := by rw [hw0]; simp
  have hE0 : Err3 w0 w.heap.size (.int .i64 0) (.slice none 0 0) (.slice none 0 0) := by rw [hw0]; exact Err3.new w
  rw [← hw0]
  have HE := Lib.hid (And.intro hE0 hb0)
  clear hw0 hE0 hb0
  refine (check_ref_bad k p n c l w0 H.out.2 (H.out.1.next HE.out.2) i m HC.out).mono ?_
  rintro e w1 ⟨v, rfl, g, g', rfl, ⟨hg1, hg2⟩, hw, hb1⟩
  have hb1' := hb1
  obtain ⟨wB, hwB⟩ : ∃ x, x = w1.alloc (.cells #[.int .i64 (m : Int), .slice (some ⟨g, 0, none⟩) 1 1, .slice (some ⟨g', 0, none⟩) 1 1] 56) := ⟨_, rfl⟩
  have hbB : Below w1.heap.size w1 wB := by rw [hwB]; exact (Below.refl _ _).alloc (Nat.le_refl _) _
  have hs1 := hb1.size
  have hsB : w1.heap.size < wB.heap.size := by rw [hwB]; simp
  have hEB : Err3 wB w1.heap.size (.int .i64 (m : Int)) (.slice (some ⟨g, 0, none⟩) 1 1) (.slice (some ⟨g', 0, none⟩) 1 1) := by rw [hwB]; exact ⟨heap_newN w1 _⟩
  have hE1 := (HE.out.1.next hb1).next hbB
  have hbw : Below w.heap.size w wB := (HE.out.2.trans (hb1.mono (by omega))).trans (hbB.mono (by omega))
  obtain ⟨_, hk0, hk1, hk2⟩ := hEB.facts
  have H1 := Lib.hid (And.intro hE1 (And.intro hEB (And.intro hbw (hw.next hbB))))
  clear hb1 hb1' hbB hEB hE1 hbw hw
  go_upto_region 2 with fail
  rw [← hwB]
  clear hwB
  go_wp2_with fail
  refine (bad_yes (m : Int) (by omega) (.slice (some ⟨g, 0, none⟩) 1 1) (.slice (some ⟨g', 0, none⟩) 1 1) wB).mono ?_
  rintro e w2 ⟨rfl, hb2⟩
  obtain ⟨⟨hf0, hf1, hf2⟩, hc0, hc1, hc2⟩ := (H1.out.1.next hb2).facts
  obtain ⟨_, hg0, hg1, hg2⟩ := (H1.out.2.1.next hb2).facts
  have hs2 := hb2.size
  have H2 := Lib.hid (And.intro (H1.out.2.2.1.trans (hb2.mono (by omega))) (H1.out.2.2.2.next hb2))
  clear hb2 hk0 hk1 hk2
  go_wp2_with fail
  go_region
  all_goals
    go_wp2_with fail
    refine bodyPost_ret (v := .tuple #[.slice none 0 0, .agg #[.int .i64 (m : Int), .slice (some ⟨g, 0, none⟩) 1 1, .slice (some ⟨g', 0, none⟩) 1 1]]) (by simp [results, Tryz.results23, go_sem, hc0, hc1, hc2]) rfl ⟨_, rfl, g, g', rfl, ⟨by omega, by omega⟩, ?_, ?_⟩
    · exact (H2.out.2.put3 (h := w.heap.size) (by omega) (by omega) (.int .i64 (m : Int)) (.slice (some ⟨g, 0, none⟩) 1 1) (.slice (some ⟨g', 0, none⟩) 1 1)).below ((Below.refl _ _).drew)
    · exact (put3_below H2.out.1 (Nat.le_refl _) _ _ _).drew

set_option maxRecDepth 100000 in
set_option maxHeartbeats 4000000 in
theorem index_ref_bad (k : Int) (p : Option Addr) (n c : Nat) (l : List Int) (w : World) (hn : n = l.length) (h : IntV w.heap.size w p c l) (i m : Nat) (hc : chkW k l = some (i, m)) :
    Calls Tryz.prog 25 #[.int .i64 k, .slice p n c] w (RefErrW2 w (.slice none 0 0) i m) := by
  have H := Lib.hid (And.intro h hn)
  have hm := (chkW_num hc).1
  have HC := Lib.hid hc
  clear h hc hn
  go_enter Tryz.func25, Tryz.ntmps25
  go_wp2_with fail
  obtain ⟨w0, hw0⟩ : ∃ w0, w0 = w.alloc (.cells #[.int .i64 0, .slice none 0 0, .slice none 0 0] 56) := ⟨_, rfl⟩
  have hb0 : Below w.heap.size w w0 := by rw [hw0]; exact (Below.refl _ _).alloc (Nat.le_refl _) _
  have hs0 : w.heap.size < w0.heap.size := by rw [hw0]; simp
  have hE0 : Err3 w0 w.heap.size (.int .i64 0) (.slice none 0 0) (.slice none 0 0) := by rw [hw0]; exact Err3.new w
  rw [← hw0]
  have HE := Lib.hid (And.intro hE0 hb0)
  clear hw0 hE0 hb0
  refine (check_ref_bad k p n c l w0 H.out.2 (H.out.1.next HE.out.2) i m HC.out).mono ?_
  rintro e w1 ⟨v, rfl, g, g', rfl, ⟨hg1, hg2⟩, hw, hb1⟩
  have hb1' := hb1
  obtain ⟨wB, hwB⟩ : ∃ x, x = w1.alloc (.cells #[.int .i64 (m : Int), .slice (some ⟨g, 0, none⟩) 1 1, .slice (some ⟨g', 0, none⟩) 1 1] 56) := ⟨_, rfl⟩
  have hbB : Below w1.heap.size w1 wB := by rw [hwB]; exact (Below.refl _ _).alloc (Nat.le_refl _) _
  have hs1 := hb1.size
  have hsB : w1.heap.size < wB.heap.size := by rw [hwB]; simp
  have hEB : Err3 wB w1.heap.size (.int .i64 (m : Int)) (.slice (some ⟨g, 0, none⟩) 1 1) (.slice (some ⟨g', 0, none⟩) 1 1) := by rw [hwB]; exact ⟨heap_newN w1 _⟩
  have hE1 := (HE.out.1.next hb1).next hbB
  have hbw : Below w.heap.size w wB := (HE.out.2.trans (hb1.mono (by omega))).trans (hbB.mono (by omega))
  obtain ⟨_, hk0, hk1, hk2⟩ := hEB.facts
  have H1 := Lib.hid (And.intro hE1 (And.intro hEB (And.intro hbw (hw.next hbB))))
  clear hb1 hb1' hbB hEB hE1 hbw hw
  go_upto_region 2 with fail
  rw [← hwB]
  clear hwB
  go_wp2_with fail
  refine (bad_yes (m : Int) (by omega) (.slice (some ⟨g, 0, none⟩) 1 1) (.slice (some ⟨g', 0, none⟩) 1 1) wB).mono ?_
  rintro e w2 ⟨rfl, hb2⟩
  obtain ⟨⟨hf0, hf1, hf2⟩, hc0, hc1, hc2⟩ := (H1.out.1.next hb2).facts
  obtain ⟨_, hg0, hg1, hg2⟩ := (H1.out.2.1.next hb2).facts
  have hs2 := hb2.size
  have H2 := Lib.hid (And.intro (H1.out.2.2.1.trans (hb2.mono (by omega))) (H1.out.2.2.2.next hb2))
  clear hb2 hk0 hk1 hk2
  go_wp2_with fail
  go_region
  all_goals
    go_wp2_with fail
    refine bodyPost_ret (v := .tuple #[.slice none 0 0, .agg #[.int .i64 (m : Int), .slice (some ⟨g, 0, none⟩) 1 1, .slice (some ⟨g', 0, none⟩) 1 1]]) (by simp [results, Tryz.results25, go_sem, hc0, hc1, hc2]) rfl ⟨_, rfl, g, g', rfl, ⟨by omega, by omega⟩, ?_, ?_⟩
    · exact (H2.out.2.put3 (h := w.heap.size) (by omega) (by omega) (.int .i64 (m : Int)) (.slice (some ⟨g, 0, none⟩) 1 1) (.slice (some ⟨g', 0, none⟩) 1 1)).below ((Below.refl _ _).drew)
    · exact (put3_below H2.out.1 (Nat.le_refl _) _ _ _).drew
end Go.Proofs.YtfgoflaeclfggaaGreatDoor
end
section
namespace Go.Proofs.YtfgoflaeclfggaaGreatDoor
open Go.RowKit

theorem madeI_list (v : Value) (n : Nat) : (madeCells #[v] n).toList = List.replicate n v := by
  unfold madeCells
  rw [Array.toList_map, Array.toList_range]
  apply List.ext_getElem
  · simp
  · intro i h1 h2
    simp [Nat.mod_one]
theorem makeI (n : Nat) (hn : n ≤ 17592186044000) (w : World) :
    (Instr.makeSlice 24 (.int .i64 (n : Int)) (.int .i64 (n : Int))).run Tryz.prog w = .ok (.slice (some ⟨w.heap.size, 0, none⟩) n n) (w.alloc (.cells (madeCells #[.int .i64 0] n) 3)) := by
  obtain ⟨i0, hi, hz0, hz1, hz2⟩ := info_parts infoI
  have h := run_make (P := Tryz.prog) w 24 3 i0 (.int .i64 0) Tryz.underlying24 hi hz0 .i64 .i64 n n (by omega) (by omega) (by rw [hz2]; omega) (by omega)
  rw [hz1] at h
  simpa [Value.cells] using h
theorem IntO.made (w : World) (n : Nat) (hn : n ≤ 17592186044000) : IntO w.heap.size (w.alloc (.cells (madeCells #[.int .i64 0] n) 3)) (some ⟨w.heap.size, 0, none⟩) n (List.replicate n 0) := by
  refine ⟨by simp [cI], Or.inr ⟨w.heap.size, n, madeCells #[.int .i64 0] n, by rw [List.length_replicate], Nat.le_refl _, heap_newN _ _, by rw [List.length_replicate]; exact Nat.le_refl _, by unfold maxLen; omega, by rw [size_madeCells, Nat.mul_one], ?_⟩⟩
  rw [madeI_list, List.length_replicate, Nat.mul_one, List.take_of_length_le (by simp)]
  simp [cI]

/-- a slice of no element, with room -/
def RoomPost (w : World) (e : Ending) (w' : World) : Prop := ∃ p c, e = .returned (.slice p 0 c) ∧ IntO w.heap.size w' p c [] ∧ Below w.heap.size w w'
set_option maxRecDepth 100000 in
set_option maxHeartbeats 2000000 in
theorem growI_nil (n : Nat) (w : World) (hn : n ≤ 17592186044000) :
    Calls Tryz.prog 129 #[.slice none 0 0, .int .i64 (n : Int)] w (RoomPost w) := by
  obtain ⟨i0, hi, hz0, hz1, hz2⟩ := info_parts infoI
  rcases Nat.eq_zero_or_pos n with rfl | h0
  · show Calls Tryz.prog 129 #[.slice none 0 0, .int .i64 0] w (RoomPost w)
    go_enter Tryz.func129, Tryz.ntmps129
    go_wp2_with fail
    go_ret
    exact ⟨none, 0, rfl, IntO.nothing _ _, Below.refl _ _⟩
  · have hold : (Builtin.firstCells i0.size 0 (.slice none 0 0)).run Tryz.prog w.drew = .ok #[] w.drew := run_firstCells_none (w := w.drew) i0.size 0 0 0
    have hrz : ∀ ty, (Builtin.append_ #[24, 3] ty #[.slice none 0 0, .int .i64 (n : Int)]).run Tryz.prog w = _ := fun ty =>
      Lib.run_append_grow_zeros w 24 3 ty 3 i0 (.int .i64 0) .i64 .i64 Tryz.underlying24 Tryz.underlying3 hi hz0 none 0 0 [] hold n h0 (by rw [hz1]; omega) (by omega) (by omega) (by rw [hz2]; omega)
        (growslice_fits (by omega) (by rw [hz2]; omega))
    have hGn : n ≤ grownCap w (0 + n) 0 3 := by have := grownCap_ge w (0 + n) 0 3; omega
    have hG := grownCap_le_maxLen w (0 + n) 0 3 (by unfold maxLen; omega)
    obtain ⟨G, hGe⟩ : ∃ G, G = grownCap w (0 + n) 0 3 := ⟨_, rfl⟩
    rw [← hGe] at hrz hGn hG
    rw [Nat.zero_add] at hrz
    have hG63 := hG
    unfold maxLen at hG63
    have HG := Lib.hid hG
    have hpos : ¬ ((n : Int) < 0) := by omega
    have hpos2 : (0 : Int) < (n : Int) := by omega
    clear hold hGe hG
    go_enter Tryz.func129, Tryz.ntmps129
    go_wp2_with (at_builtin; refine Lib.wpList_append_run _ rfl _ _ _ _ rfl _ _ rfl rfl _ _ (hrz _) ?_)
    go_ret
    refine ⟨_, _, rfl, ⟨by simp [cI], Or.inr ⟨w.heap.size, G, _, rfl, Nat.le_refl _, heap_newN _ _, Nat.zero_le _, HG.out, ?_, by simp [cI]⟩⟩, (Below.refl _ _).drew.alloc (by simp) _⟩
    simp [Builtin.zeroCells]
    omega

/-! ### several lists -/
abbrev Sl := Option Addr × Nat × List Int
def Sl.val (x : Sl) : Value := .slice x.1 x.2.2.length x.2.1
/-- A slice of slices of ints below B: it reads L, and each of them reads. -/
structure SlsV (B : Nat) (w : World) (p : Option Addr) (c : Nat) (L : List Sl) : Prop where
  le : L.length ≤ c
  cap : c ≤ maxLen
  each : ∀ x : Sl, x ∈ L → IntV B w x.1 x.2.1 x.2.2
  cell : L ≠ [] → ∃ b off, p = some ⟨b, off, none⟩ ∧ b < B ∧ ∀ (j : Nat) (x : Sl), L[j]? = some x → w.cell? ⟨b, off + j, none⟩ = some x.val
theorem SlsV.below {B : Nat} {w w' : World} {p : Option Addr} {c : Nat} {L : List Sl} (hb : Below B w w') (h : SlsV B w p c L) : SlsV B w' p c L :=
  ⟨h.le, h.cap, fun x hx => (h.each x hx).below hb, fun hn => by
    obtain ⟨b, off, hp, hlt, hc⟩ := h.cell hn
    exact ⟨b, off, hp, hlt, fun j x hx => (hb.cell (p := ⟨b, off + j, none⟩) hlt).trans (hc j x hx)⟩⟩
theorem SlsV.mono {B B' : Nat} {w : World} {p : Option Addr} {c : Nat} {L : List Sl} (hB : B ≤ B') (h : SlsV B w p c L) : SlsV B' w p c L :=
  ⟨h.le, h.cap, fun x hx => (h.each x hx).mono hB, fun hn => by
    obtain ⟨b, off, hp, hlt, hc⟩ := h.cell hn
    exact ⟨b, off, hp, by omega, hc⟩⟩
theorem SlsV.next {w w' : World} {p : Option Addr} {c : Nat} {L : List Sl} (hb : Below w.heap.size w w') (h : SlsV w.heap.size w p c L) : SlsV w'.heap.size w' p c L := (h.below hb).mono hb.size
/-- a literal of slices, just laid -/
theorem SlsV.laid {w : World} (L : List Sl) (cs : Array Value) (t : TypeId) (hc : cs.toList = L.map Sl.val) (hl : L.length ≤ 1000) (h : ∀ x : Sl, x ∈ L → IntV w.heap.size w x.1 x.2.1 x.2.2) :
    SlsV (w.alloc (.cells cs t)).heap.size (w.alloc (.cells cs t)) (some ⟨w.heap.size, 0, none⟩) L.length L := by
  have hb : Below w.heap.size w (w.alloc (.cells cs t)) := (Below.refl _ _).alloc (Nat.le_refl _) _
  refine ⟨Nat.le_refl _, by unfold maxLen; omega, fun x hx => (h x hx).next hb, fun _ => ⟨w.heap.size, 0, rfl, by simp, fun j x hx => ?_⟩⟩
  rw [Nat.zero_add, cell_alloc_row, ← Array.getElem?_toList, hc, List.getElem?_map, hx]; rfl
def flat (L : List Sl) : List Int := (L.map (·.2.2)).flatten
def sumL (L : List Sl) : Nat := (L.map (·.2.2.length)).sum
theorem flat_length (L : List Sl) : (flat L).length = sumL L := by unfold flat sumL; rw [List.length_flatten, List.map_map]; rfl
theorem flat_snoc {L : List Sl} {j : Nat} {x : Sl} (h : L[j]? = some x) : flat (L.take (j + 1)) = flat (L.take j) ++ x.2.2 := by
  unfold flat
  rw [List.take_add_one, h]; simp
theorem sum_snoc {L : List Sl} {j : Nat} {x : Sl} (h : L[j]? = some x) : sumL (L.take (j + 1)) = sumL (L.take j) + x.2.2.length := by
  unfold sumL
  rw [List.take_add_one, h]; simp
theorem sum_take_le (L : List Sl) (j : Nat) : sumL (L.take j) ≤ sumL L := by
  conv => rhs; rw [← List.take_append_drop j L]
  unfold sumL
  rw [List.map_append, List.sum_append]
  exact Nat.le_add_right _ _
def ConcatRel (w : World) (L : List Sl) (v6 v27 : Value) (wr : World) : Prop :=
  ∃ (j : Nat) (p : Option Addr) (c : Nat), j ≤ L.length ∧ v27 = .int .i64 (j : Int) ∧ v6 = .slice p (flat (L.take j)).length c ∧ IntO w.heap.size wr p c (flat (L.take j)) ∧ Below w.heap.size w wr

set_option maxRecDepth 100000 in
set_option maxHeartbeats 4000000 in
theorem concatI (q : Option Addr) (n c : Nat) (L : List Sl) (w : World) (hn : n = L.length) (h : SlsV w.heap.size w q c L) (hs : sumL L ≤ 17592186044000) :
    Calls Tryz.prog 85 #[.slice q n c] w (IntPost w (flat L)) := by
  obtain ⟨i0, hi, hz0, hz1, hz2⟩ := info_parts infoI
  have hle := h.le
  have hcap := h.cap
  unfold maxLen at hcap
  have hnc : n ≤ c := by omega
  have H := Lib.hid (And.intro h (And.intro hn hs))
  clear h hn hs hle
  go_enter Tryz.func85, Tryz.ntmps85
  go_wp2_with fail
  go_loop [3, 11] (fun v3 v11 => ∃ (j s : Nat), j ≤ n ∧ v11 = .int .i64 (j : Int) ∧ v3 = .int .i64 (s : Int) ∧ Hid (s = sumL (L.take j))) (fun _ v => n - (intOf v).toNat)
  case atStart => exact ⟨0, 0, Nat.zero_le _, rfl, rfl, rfl⟩
  case round =>
    obtain ⟨j, s, hj, rfl, rfl, hsj⟩ := hrel
    have hsl : s ≤ 17592186044000 := by have := hsj.out; have := sum_take_le L j; have := H.out.2.2; omega
    by_cases hlt : j < n
    · have hnl := H.out.2.1
      obtain ⟨x, hx⟩ : ∃ x, L[j]? = some x := ⟨_, List.getElem?_eq_getElem (by omega)⟩
      obtain ⟨b, off, rfl, hb, hc⟩ := H.out.1.cell (by rintro rfl; simp at hx)
      have hcx := hc j x hx
      have hst := sum_snoc hx
      have hlx : s + x.2.2.length ≤ 17592186044000 := by
        have := hsj.out; have := sum_take_le L (j + 1); have := H.out.2.2; omega
      obtain ⟨xa, xc, xl⟩ := x
      replace hcx : w.cell? ⟨b, off + j, none⟩ = some (.slice xa xl.length xc) := hcx
      replace hlx : s + xl.length ≤ 17592186044000 := hlx
      have HS := Lib.hid hst
      have hneg : ¬ ((s : Int) + (xl.length : Int) < 0) := by omega
      clear hc hx hst hnl
      go_wp2_with fail
      go_round
      case rel => exact ⟨j + 1, s + xl.length, by omega, by go_num, by go_num, by show _ = _; rw [HS.out, hsj.out]⟩
      case measure => simp [intOf]; omega
    · obtain rfl : j = n := by omega
      have hse : s = sumL L := by rw [hsj.out, H.out.2.1, List.take_length]
      have HSE := Lib.hid hse
      clear hse
      go_wp2_with fail
      refine (growI_nil s w hsl).mono ?_
      rintro e w1 ⟨p1, c1, rfl, ho1, hb1⟩
      have HB1 := Lib.hid (And.intro ho1 hb1)
      clear ho1 hb1 hsj
      go_wp2_with fail
      go_loopw [6, 27] (fun v6 v27 wr => ConcatRel w L v6 v27 wr) (fun _ v _ => j - (intOf v).toNat)
      case atStart => exact ⟨0, p1, c1, Nat.zero_le _, rfl, rfl, HB1.out.1, HB1.out.2⟩
      case round =>
        obtain ⟨i, p, cp, hi', rfl, rfl, ho, hb⟩ := hrel
        have hwB : w.heap.size ≤ wr.heap.size := hb.size
        by_cases hlt2 : i < j
        · have hnl := H.out.2.1
          obtain ⟨x, hx⟩ : ∃ x, L[i]? = some x := ⟨_, List.getElem?_eq_getElem (by omega)⟩
          have hxm := (H.out.1.below hb).each x (List.mem_of_getElem? hx)
          obtain ⟨b, off, rfl, hbq, hc⟩ := (H.out.1.below hb).cell (by rintro rfl; simp at hx)
          have hcx := hc i x hx
          have hfs := flat_snoc hx
          have htot : (flat (L.take i)).length + x.2.2.length ≤ 17592186044000 := by
            have h1 := flat_length (L.take (i + 1))
            have h2 := sum_take_le L (i + 1)
            rw [hfs, List.length_append] at h1
            have := H.out.2.2; omega
          obtain ⟨xa, xc, xl⟩ := x
          replace hcx : wr.cell? ⟨b, off + i, none⟩ = some (.slice xa xl.length xc) := hcx
          replace hxm : IntV w.heap.size wr xa xc xl := hxm
          replace hfs : flat (L.take (i + 1)) = flat (L.take i) ++ xl := hfs
          replace htot : (flat (L.take i)).length + xl.length ≤ 17592186044000 := htot
          obtain ⟨r, hr⟩ : ∃ r, flat (L.take i) = r := ⟨_, rfl⟩
          rw [hr] at ho hfs htot ⊢
          obtain ⟨rn, hrn⟩ : ∃ rn, r.length = rn := ⟨_, rfl⟩
          have hown : wr.ownsRow w.heap.size 3 1 (.slice p rn cp) rn (cI r) := by rw [← hrn]; exact ho
          rw [hrn] at htot ⊢
          have HS := Lib.hid (And.intro hfs (And.intro hb (And.intro hrn hxm)))
          have HX := Lib.hid (hxm.cell)
          have hxle := hxm.le
          have hxnil := hxm.nil
          clear hc hx hfs hr ho hrn hb hnl
          rcases xa with _ | a
          · have hxc := hxnil rfl
            subst hxc
            have hl0 : xl = [] := List.eq_nil_of_length_eq_zero (by omega)
            subst hl0
            clear hxnil hxm
            replace hcx : wr.cell? ⟨b, off + i, none⟩ = some (.slice none 0 0) := hcx
            go_wp2_with (at_builtin; refine wpList_append_own_none rfl _ _ 24 rfl w.heap.size 3 i0 1 Tryz.underlying24 hi _ rn (cI r) rfl hown rfl ?_)
            have HO := Lib.hid hown
            clear hown
            go_wp2_with fail
            go_roundw
            case rel =>
              have e := HS.out.1
              rw [List.append_nil] at e
              exact ⟨i + 1, p, cp, by have := H.out.2.1; omega, by go_num, by rw [e, HS.out.2.2.1], by rw [e]; unfold IntO; rw [HS.out.2.2.1]; exact HO.out, HS.out.2.1⟩
            case measure => simp [intOf]; omega
          · have hnews : ∀ j u, (cI xl)[j]? = some u → wr.cell? (a.add j) = some u := fun j u hj => by
              unfold cI at hj
              rw [List.getElem?_map] at hj
              obtain ⟨x, hx, rfl⟩ := Option.map_eq_some_iff.1 hj
              obtain ⟨b', off', ha, _, hcc⟩ := HX.out (by rintro rfl; simp at hx)
              obtain rfl : a = ⟨b', off', none⟩ := by simpa using ha
              rw [add_off]
              exact hcc j x hx
            have HN := Lib.hid hnews
            clear hxnil hnews hxm
            go_wp2_with (at_builtin; refine wpList_append_own _ rfl _ _ 24 rfl w.heap.size 3 i0 (.int .i64 0) 1 8 Tryz.underlying24 hi hz0 hz1 hz2 rfl (by decide) _ rn (cI r) rfl hown a xl.length xc (cI xl) rfl ?c0 ?c1 ?c2 ?c3 ?c4 ?c5 ?_)
            case c0 => simp [cI]
            case c1 => exact HN.out
            case c2 =>
              intro u hu
              unfold cI at hu
              obtain ⟨x, _, rfl⟩ := List.mem_map.1 hu
              rfl
            case c3 => unfold maxLen; omega
            case c4 => omega
            case c5 => exact hwB
            intro v' w1 hown' hgrow _
            rw [← cI_app] at hown'
            have hlen : rn + xl.length = (r ++ xl).length := by rw [List.length_append, HS.out.2.2.1]
            rw [hlen] at hown'
            obtain ⟨p2, c2, rfl, ho2⟩ := IntO.slice_own hown'
            have hb2 : Below w.heap.size w w1 := HS.out.2.1.grown hgrow hwB (fun j hj => (hown.lt j hj).1)
            have HO := Lib.hid (And.intro ho2 hb2)
            clear hown hown' hgrow ho2 hb2 hlen
            go_wp2_with fail
            go_roundw
            case rel => exact ⟨i + 1, p2, c2, by have := H.out.2.1; omega, by go_num, by rw [HS.out.1], by rw [HS.out.1]; exact HO.out.1, HO.out.2⟩
            case measure => simp [intOf]; omega
        · obtain rfl : i = j := by have := H.out.2.1; omega
          have he : flat (L.take i) = flat L := by rw [H.out.2.1, List.take_length]
          have HE := Lib.hid (And.intro he (And.intro ho hb))
          clear he ho hb
          go_wp2_with fail
          go_ret
          exact ⟨p, cp, by rw [HE.out.1]; rfl, by rw [← HE.out.1]; exact HE.out.2.1, HE.out.2.2⟩
end Go.Proofs.YtfgoflaeclfggaaGreatDoor
end
section
namespace Go.Proofs.YtfgoflaeclfggaaGreatDoor
open Go.RowKit WordM

theorem cmp_w (p q : Option Addr) (n m c d : Nat) (l k : List Int) (w : World) (hn : n = l.length) (hm : m = k.length) (h : IntV w.heap.size w p c l) (h' : IntV w.heap.size w q d k) :
    Calls Tryz.prog 18 #[.slice p n c, .slice q m d] w fun e w' => e = .returned (.int .i64 (cmpW l k)) ∧ w = w' := by
  by_cases hlen : l.length = k.length
  · have hc := scompare_any p q n m c d l k w hn (hm.trans hlen.symm) hlen h h'
    have hnm : n = m := by omega
    subst hnm
    have hw : cmpW l k = lexC l k := cmpW_len hlen
    have H := Lib.hid (And.intro hc hw)
    clear hc hw h h' hlen hn hm
    go_enter Tryz.func18, Tryz.ntmps18
    go_wp2_with fail
    refine H.out.1.mono ?_
    rintro e w' ⟨rfl, rfl⟩
    go_wp2_with fail
    go_ret
    exact ⟨by rw [H.out.2]; rfl, rfl⟩
  · have hc := compare_any (n : Int) (m : Int) w
    have hw : cmpW l k = cmpInt (n : Int) (m : Int) := by
      unfold cmpW cmpInt
      subst hn hm
      by_cases h1 : l.length < k.length
      · rw [if_pos h1, if_pos (by omega)]
      · rw [if_neg h1, if_pos (by omega), if_neg (by omega), if_pos (by omega)]
    have hne : ((n : Int) == (m : Int)) = false := by rw [beq_eq_false_iff_ne]; omega
    have hne2 : ((n : Int) != (m : Int)) = true := by rw [bne_iff_ne]; omega
    have H := Lib.hid (And.intro hc hw)
    clear hc hw h h' hlen hn hm
    go_enter Tryz.func18, Tryz.ntmps18
    go_wp2_with fail
    refine H.out.1.mono ?_
    rintro e w' ⟨rfl, rfl⟩
    go_wp2_with fail
    go_ret
    exact ⟨by rw [H.out.2]; rfl, rfl⟩

theorem IntPost.under {w W : World} {l : List Int} {e : Ending} {w' : World} (hb : Below w.heap.size w W) (h : IntPost W l e w') : IntPost w l e w' := by
  obtain ⟨p, c, he, ho, hb'⟩ := h
  exact ⟨p, c, he, ho.base hb.size, hb.trans (hb'.mono hb.size)⟩
theorem reverseI_none (w : World) : Calls Tryz.prog 84 #[.slice none 0 0] w fun e w' => e = .returned (.tuple #[]) ∧ w = w' := by
  go_enter Tryz.func84, Tryz.ntmps84
  go_wp2_with fail
  go_loop [2, 3] (fun v2 v3 => v2 = .int .i64 0 ∧ v3 = .int .i64 (-1)) (fun _ _ => 0)
  case atStart => exact ⟨rfl, rfl⟩
  case round =>
    obtain ⟨rfl, rfl⟩ := hrel
    go_wp2_with fail
    go_end0
    exact ⟨rfl, rfl⟩
set_option maxHeartbeats 1000000 in
theorem back_any (p : Option Addr) (n c : Nat) (l : List Int) (w : World) (hn : n = l.length) (h : IntV w.heap.size w p c l) (hl : l.length ≤ 17592186044000) :
    Calls Tryz.prog 35 #[.slice p n c] w (IntPost w l.reverse) := by
  subst hn
  have hc := cloneI_any p c l w h hl
  have HC := Lib.hid hc
  clear hc h
  go_enter Tryz.func35, Tryz.ntmps35
  go_wp2_with fail
  refine HC.out.mono ?_
  rintro e w1 ⟨p1, c1, rfl, ho1, hb1⟩
  rcases own_shape ho1 with ⟨hv, h0, _⟩ | ⟨g, cap, hv, hg, hglt, hcc, hm, hcl, _⟩
  · obtain ⟨rfl, hl0, rfl⟩ := by simpa using hv
    subst hl0
    have HB := Lib.hid hb1
    clear ho1 hb1 h0 hv
    go_wp2_with fail
    refine (reverseI_none _).mono ?_
    rintro e w' ⟨rfl, rfl⟩
    go_wp2_with fail
    go_ret
    exact ⟨none, 0, rfl, IntO.nothing _ _, HB.out⟩
  · obtain ⟨rfl, rfl⟩ : p1 = some ⟨g, 0, none⟩ ∧ c1 = cap := by simpa using hv
    have HB := Lib.hid (And.intro hb1 hg)
    have hr := reverseI_any w.heap.size g c1 l w1 (by omega) ho1
    clear ho1 hb1 hg hcl hv
    go_wp2_with fail
    refine hr.mono ?_
    rintro e w2 ⟨rfl, ho2, hgr⟩
    have hb2 : Below w.heap.size w w2 := HB.out.1.grown hgr HB.out.1.size (fun j hj => by obtain rfl := Option.some.inj hj; exact HB.out.2)
    have HO := Lib.hid (And.intro ho2 hb2)
    clear ho2 hgr hb2 hr
    go_wp2_with fail
    go_ret
    exact ⟨some ⟨g, 0, none⟩, c1, by rw [List.length_reverse]; rfl, by unfold IntO; rw [List.length_reverse]; exact HO.out.1, HO.out.2⟩

/-- how far a turn goes -/
def turnN (l : List Int) (z : Int) : Nat := (z % (l.length : Int)).toNat
def turnW (l : List Int) (z : Int) : List Int := rot l (turnN l z)
theorem turnW_length (l : List Int) (z : Int) : (turnW l z).length = l.length := rot_length _ _
set_option maxRecDepth 100000 in
set_option maxHeartbeats 4000000 in
theorem turn_any (p : Option Addr) (n c : Nat) (l : List Int) (z : Int) (w : World) (hn : n = l.length) (h : IntV w.heap.size w p c l) (hl : l.length ≤ 17592186044000) :
    Calls Tryz.prog 37 #[.slice p n c, .int .i64 z] w (IntPost w (turnW l z)) := by
  have hle := h.le
  have hcap := h.cap
  unfold maxLen at hcap
  rcases Nat.eq_zero_or_pos n with h0 | h0
  · have hl0 : l = [] := List.eq_nil_of_length_eq_zero (by omega)
    subst hl0 h0
    clear h hle
    clear hn hl
    go_enter Tryz.func37, Tryz.ntmps37
    go_wp2_with fail
    go_ret
    exact ⟨none, 0, rfl, IntO.nothing _ _, Below.refl _ _⟩
  · obtain ⟨b, off, rfl, hb, hc⟩ := h.cell (by rintro rfl; simp at hn; omega)
    obtain ⟨t, ht⟩ : ∃ t, turnN l z = t := ⟨_, rfl⟩
    have htn : t < n := by
      rw [← ht, hn]
      unfold turnN
      have h1 := Int.emod_lt_of_pos z (show (0 : Int) < (l.length : Int) by omega)
      have h2 := Int.emod_nonneg z (show (l.length : Int) ≠ 0 by omega)
      omega
    have htz : z % (n : Int) = (t : Int) := by
      rw [← ht, hn]
      unfold turnN
      have h2 := Int.emod_nonneg z (show (l.length : Int) ≠ 0 by omega)
      omega
    have hrot : rot l t = l.drop t ++ l.take t := (rot_drop (by omega)).symm
    have hnz : ((n : Int) == 0) = false := by rw [beq_eq_false_iff_ne]; omega
    have hnc : n ≤ c := by omega
    have hnl : n ≤ 17592186044000 := by omega
    obtain ⟨r, hr⟩ : ∃ r, z.tmod (n : Int) = r := ⟨_, rfl⟩
    have hrt : (r < 0 ∧ r + (n : Int) = (t : Int)) ∨ (¬ r < 0 ∧ r = (t : Int)) := by
      have e := @Int.tmod_eq_emod z (n : Int)
      have hlo : -(n : Int) < r := by rw [← hr]; exact Int.lt_tmod_of_pos z (by omega)
      rw [hr, htz] at e
      split at e <;> omega
    have hsum : ∀ W : World, Below w.heap.size w W → w.heap.size < W.heap.size → (∀ j, W.cell? ⟨w.heap.size, j, none⟩ = (#[.slice (some ⟨b, off + t, none⟩) (n - t) (c - t), .slice (some ⟨b, off, none⟩) t c] : Array Value)[j]?) → Calls Tryz.prog 85 #[.slice (some ⟨w.heap.size, 0, none⟩) 2 2] W (IntPost w (turnW l z)) := fun W hbW hs hcs => by
      have e : turnW l z = flat [(some ⟨b, off + t, none⟩, c - t, l.drop t), (some ⟨b, off, none⟩, c, l.take t)] := by
        unfold turnW flat
        rw [ht, hrot]
        simp
      rw [e]
      have hd1 : (l.drop t).length = n - t := by rw [List.length_drop, hn]
      have hd2 : (l.take t).length = t := by rw [List.length_take]; omega
      refine (concatI _ 2 2 [(some ⟨b, off + t, none⟩, c - t, l.drop t), (some ⟨b, off, none⟩, c, l.take t)] _ rfl ⟨Nat.le_refl _, by unfold maxLen; omega, ?_, fun _ => ⟨_, 0, rfl, hs, ?_⟩⟩ ?_).mono fun e w' h => IntPost.under hbW h
      · have hv := h.next hbW
        intro x hx
        rcases List.mem_cons.1 hx with rfl | hx
        · exact hv.drop t (by omega)
        · obtain rfl := List.mem_singleton.1 hx
          exact hv.take t
      · intro j x hx
        rw [Nat.zero_add, hcs]
        match j, hx with
        | 0, hx => obtain rfl := Option.some.inj hx; simp [Sl.val, hd1]
        | 1, hx => obtain rfl := Option.some.inj hx; simp [Sl.val, hd2]
      · unfold sumL
        simp
        omega
    have HS := Lib.hid hsum
    have ht0 : (0 : Int) ≤ (t : Int) := by omega
    have htn2 : (t : Int) ≤ (n : Int) := by omega
    have hnc2 : (n : Int) ≤ (c : Int) := by omega
    have htc : ¬ (c : Int) = (t : Int) := by omega
    have htc2 : ¬ c = t := by omega
    clear hsum ht htz hrot hn hc h hle hb
    rcases hrt with ⟨hr0, hrt⟩ | ⟨hr0, rfl⟩
    all_goals
      go_enter Tryz.func37, Tryz.ntmps37
      go_wp2_with fail
      go_region_with (first
        | (go_at_call 85; refine (HS.out _ (by (repeat' (first | exact Below.refl _ _ | refine Below.drew ?_ | refine below_drewN ?_ _ | refine Below.alloc ?_ ?_ _ | (simp; done) | (simp; omega)))) (by simp) (by intro j; simp)).mono ?_; rintro e w1 ⟨p1, c1, rfl, ho1, hb1⟩))
      all_goals
        have HO := Lib.hid (And.intro ho1 hb1)
        clear ho1 hb1
        go_wp2_with fail
        go_ret
        exact ⟨p1, c1, rfl, HO.out.1, HO.out.2⟩
end Go.Proofs.YtfgoflaeclfggaaGreatDoor
end
section
namespace Go.Proofs.YtfgoflaeclfggaaGreatDoor
open Go.RowKit Go.Extern.Stop Go.Stop Go.Extern WordM

/-- the word behind it, and no error -/
def NextOk (w : World) (k : Nat) (l : List Int) (e : Ending) (w' : World) : Prop := ∃ x, IsNext k l x ∧ IntOk w x e w'

theorem set_mid {l : List Int} {i : Nat} {y v : Int} (h : l[i]? = some y) (n : Nat) (z : Int) : (l.take (i + 1) ++ List.replicate n z).set i v = l.take i ++ v :: List.replicate n z := by
  have hi := ltI h
  have e : l.take (i + 1) = l.take i ++ [y] := by rw [List.take_add_one, h]; rfl
  rw [e, List.append_assoc, List.set_append_right _ _ (by rw [List.length_take]; omega), List.length_take, Nat.min_eq_left (by omega), Nat.sub_self]
  rfl
theorem take_rep {l : List Int} {i n : Nat} {y z : Int} (h : l[i]? = some y) (e : l = l.take (i + 1) ++ List.replicate n z) : l = l.take i ++ y :: List.replicate n z := by
  have e2 : l.take (i + 1) = l.take i ++ [y] := by rw [List.take_add_one, h]; rfl
  rw [e2, List.append_assoc] at e
  exact e
def NextRel (w : World) (k : Nat) (l : List Int) (p : Option Addr) (c : Nat) (v : Value) (wr : World) : Prop :=
  ∃ j : Nat, j ≤ l.length ∧ v = .int .i64 ((j : Int) - 1) ∧ l = l.take j ++ List.replicate (l.length - j) ((k : Int) - 1) ∧ IntO w.heap.size wr p c (l.take j ++ List.replicate (l.length - j) 0) ∧ Below w.heap.size w wr
set_option maxRecDepth 100000 in
set_option maxHeartbeats 4000000 in
theorem next_any (k : Nat) (p : Option Addr) (n c : Nat) (l : List Int) (w : World) (hn : n = l.length) (h : IntV w.heap.size w p c l) (hc : chkW k l = none) (hlast : l.length < 4096 ∨ l ≠ List.replicate l.length ((k : Int) - 1)) :
    Calls Tryz.prog 15 #[.int .i64 (k : Int), .slice p n c] w (NextOk w k l) := by
  obtain ⟨i0, hi, hz0, hz1, hz2⟩ := info_parts infoI
  have hck := check_ok (k : Int) p n c l w hn h hc
  obtain ⟨k', hk', h1, h4, hl, ho⟩ := chkW_none hc
  obtain rfl : k = k' := by omega
  have H := Lib.hid (And.intro h (And.intro ho (And.intro hn hlast)))
  have hn4 : n ≤ 4096 := by omega
  have HCK := Lib.hid hck
  clear h hc hl ho hck hlast hk' hn
  go_enter Tryz.func15, Tryz.ntmps15
  go_wp2_with fail
  refine HCK.out.mono ?_
  rintro e w1 ⟨rfl, hb1⟩
  have hcl := cloneI_any p c l w1 (H.out.1.next hb1) (by have := H.out.2.2.1; omega)
  rw [← H.out.2.2.1] at hcl
  have HB1 := Lib.hid (And.intro hb1 hcl)
  clear hb1 hcl
  go_wp2_with fail
  refine HB1.out.2.mono ?_
  rintro e w2 ⟨p2, c2, rfl, ho2, hb2⟩
  have hb02 : Below w.heap.size w w2 := HB1.out.1.trans (hb2.mono HB1.out.1.size)
  have ho02 := ho2.base HB1.out.1.size
  have hlen := H.out.2.2.1
  obtain ⟨L, hL⟩ : ∃ L, l.length = L := ⟨_, rfl⟩
  have hLn : L = n := by omega
  rw [hL, hLn]
  have HO := Lib.hid (And.intro hb02 ho02)
  clear hb2 ho2 hb02 ho02 hlen hL hLn
  go_wp2_with fail
  go_loopw [8] (fun v wr => NextRel w k l p2 c2 v wr) (fun v _ => (intOf v + 1).toNat)
  case atStart =>
    have hlen := H.out.2.2.1
    exact ⟨l.length, Nat.le_refl _, by rw [hlen], by simp, by simp; exact HO.out.2, HO.out.1⟩
  case round =>
    obtain ⟨j, hj, rfl, hw2, ho, hb⟩ := hrel
    have hlen := H.out.2.2.1
    have hleng : (l.take j ++ List.replicate (l.length - j) (0 : Int)).length = n := by simp; omega
    rcases Nat.eq_zero_or_pos j with rfl | hj0
    · -- all were k - 1
      have hl4 : ((n : Int) == 4096) = false := by
        rw [beq_eq_false_iff_ne]
        intro e
        rcases H.out.2.2.2 with h1 | h1
        · omega
        · apply h1
          rw [List.take_zero, List.nil_append, Nat.sub_zero] at hw2
          exact hw2
      have hx : l.take 0 ++ List.replicate (l.length - 0) (0 : Int) = List.replicate n 0 := by rw [List.take_zero, List.nil_append, Nat.sub_zero, hlen]
      rw [hx] at ho
      have hown : wr.ownsRow w.heap.size 3 1 (.slice p2 n c2) n (cI (List.replicate n 0)) := by
        unfold IntO at ho
        rwa [List.length_replicate] at ho
      have hwB : w.heap.size ≤ wr.heap.size := hb.size
      have HX := Lib.hid (And.intro hw2 hb)
      clear ho hx hw2 hb hlen hleng
      go_wp2_with (at_builtin; refine wpList_append_own _ rfl _ _ 24 rfl w.heap.size 3 i0 (.int .i64 0) 1 8 Tryz.underlying24 hi hz0 hz1 hz2 rfl (by decide) _ n (cI (List.replicate n 0)) rfl (hown.alloc _) ⟨wr.heap.size, 0, none⟩ 1 1 [.int .i64 0] rfl rfl (cell_one_new _ _ _) ?c2 ?c3 ?c4 ?c5 ?_)
      case c2 => intro u hu; simp at hu; subst hu; rfl
      case c3 => unfold maxLen; omega
      case c4 => omega
      case c5 => simp; omega
      intro v' w3 hown' hgrow _
      have hxs : cI (List.replicate n 0) ++ [Value.int .i64 0] = cI (List.replicate (n + 1) 0) := by
        rw [List.replicate_succ', cI_app]; rfl
      rw [hxs] at hown'
      have hown2 : w3.ownsRow w.heap.size 3 1 v' (List.replicate (n + 1) (0 : Int)).length (cI (List.replicate (n + 1) 0)) := by rw [List.length_replicate]; exact hown'
      obtain ⟨p3, c3, rfl, ho3⟩ := IntO.slice_own hown2
      have hb3 : Below w.heap.size w w3 := (HX.out.2.alloc hwB _).grown hgrow (by simp; omega) (fun j hj => (hown.lt j hj).1)
      have HF := Lib.hid (And.intro ho3 hb3)
      clear hown hown' hgrow ho3 hb3 hxs hown2
      go_wp2_with fail
      go_ret2
      refine ⟨List.replicate (n + 1) 0, Or.inr ⟨?_, by rw [H.out.2.2.1]⟩, p3, c3, rfl, HF.out.1, HF.out.2⟩
      have e := HX.out.1
      rwa [List.take_zero, List.nil_append, Nat.sub_zero] at e
    · obtain ⟨i, rfl⟩ : ∃ i, j = i + 1 := ⟨j - 1, by omega⟩
      have e1 : (((i + 1 : Nat) : Int) - 1) = (i : Int) := by omega
      rw [e1]
      obtain ⟨y, hy⟩ := getI (l := l) (k := i) (by omega)
      have hyo := H.out.2.1 y (List.mem_of_getElem? hy)
      have hyx : (l.take (i + 1) ++ List.replicate (l.length - (i + 1)) (0 : Int))[i]? = some y := by
        rw [List.getElem?_append_left (by rw [List.length_take]; omega), List.getElem?_take, if_pos (by omega), hy]
      have hset := fun v => set_mid (v := v) hy (l.length - (i + 1)) 0
      have hrep := take_rep hy hw2
      obtain ⟨xs, hxs⟩ : ∃ xs, l.take (i + 1) ++ List.replicate (l.length - (i + 1)) (0 : Int) = xs := ⟨_, rfl⟩
      rw [hxs] at ho hleng hyx
      simp only [hxs] at hset
      have hown : wr.ownsRow w.heap.size 3 1 (.slice p2 n c2) n (cI xs) := by
        unfold IntO at ho
        rwa [hleng] at ho
      rcases own_shape hown with ⟨hv, h0, _⟩ | ⟨g, cap, hv, hg, hglt, hcc, hm, hcel, _⟩
      · omega
      obtain ⟨rfl, rfl⟩ : p2 = some ⟨g, 0, none⟩ ∧ c2 = cap := by simpa using hv
      have hin : i < n := by omega
      have hcx : wr.cell? ⟨g, i, none⟩ = some (.int .i64 y) := (hcel i hin).trans (cI_get hyx)
      have hfx : wr.frozen? ⟨g, i, none⟩ = false := hown.frozenAt i
      have hnc2 : n ≤ c2 := hcc
      have hc2m : c2 ≤ 9223372036854775807 := by unfold maxLen at hm; omega
      by_cases hyk : y < (k : Int) - 1
      · obtain ⟨s1, t1⟩ := hown.stored i (.int .i64 (y + 1))
        rw [← cI_set, hset] at s1
        have hb1 : Below w.heap.size w (wr.setCell ⟨g, i, none⟩ (.int .i64 (y + 1))) := hb.setCell (p := ⟨g, i, none⟩) hg _
        have HS := Lib.hid (And.intro s1 (And.intro hb1 (And.intro hy (And.intro hrep hyk))))
        have hyw : y + 1 ≤ 4 := by omega
        have hy0 : 0 ≤ y := hyo.1
        clear ho hown hcel hv hset hxs s1 t1 hb1 hb hw2 hy hrep hyx hleng hlen hyo e1 hcc hm
        go_wp2_with fail
        go_ret2
        have e3 : l.length - (i + 1) = l.length - 1 - i := by omega
        refine ⟨l.take i ++ (y + 1) :: List.replicate (l.length - (i + 1)) 0, Or.inl ⟨i, y, HS.out.2.2.1, HS.out.2.2.2.2, by rw [← e3]; exact HS.out.2.2.2.1, by rw [e3]⟩, some ⟨g, 0, none⟩, c2, ?_, ?_, HS.out.2.1⟩
        · have : (l.take i ++ (y + 1) :: List.replicate (l.length - (i + 1)) 0).length = n := by simp; have := H.out.2.2.1; omega
          rw [this]; rfl
        · unfold IntO
          have : (l.take i ++ (y + 1) :: List.replicate (l.length - (i + 1)) 0).length = n := by simp; have := H.out.2.2.1; omega
          rw [this]; exact HS.out.1
      · obtain rfl : y = (k : Int) - 1 := by omega
        obtain ⟨s1, t1⟩ := hown.stored i (.int .i64 0)
        rw [← cI_set, hset] at s1
        have hb1 : Below w.heap.size w (wr.setCell ⟨g, i, none⟩ (.int .i64 0)) := hb.setCell (p := ⟨g, i, none⟩) hg _
        have HS := Lib.hid (And.intro s1 (And.intro hb1 (And.intro hy hrep)))
        clear ho hown hcel hv hset hxs s1 t1 hb1 hb hw2 hy hrep hyx hleng hlen hyo e1 hcc hm hyk
        go_wp2_with fail
        go_roundw
        case rel =>
          have e3 : l.length - i = l.length - (i + 1) + 1 := by have := H.out.2.2.1; omega
          refine ⟨i, by have := H.out.2.2.1; omega, rfl, by rw [e3, List.replicate_succ]; exact HS.out.2.2.2, ?_, HS.out.2.1⟩
          rw [e3, List.replicate_succ]
          unfold IntO
          have : (l.take i ++ 0 :: List.replicate (l.length - (i + 1)) (0 : Int)).length = n := by simp; have := H.out.2.2.1; omega
          rw [this]; exact HS.out.1
        case measure => simp [intOf]
end Go.Proofs.YtfgoflaeclfggaaGreatDoor
end
section
namespace Go.Proofs.YtfgoflaeclfggaaGreatDoor
open Go.RowKit NatM

theorem bsOf_strOfNums {l : List Nat} (h : ∀ x ∈ l, x < 256) : bsOf (strOfNums (l.map fun (d : Nat) => (d : Int))) = l := by
  unfold bsOf
  rw [strOfNums_data, List.map_map, List.map_map]
  conv => rhs; rw [← List.map_id l]
  apply List.map_congr_left
  intro x hx
  have := h x hx
  simp [UInt8.toNat_ofNat']
  omega
theorem strOfNums_bsOf (s : ByteArray) : strOfNums ((bsOf s).map fun (d : Nat) => (d : Int)) = s := by
  have h : (strOfNums ((bsOf s).map fun (d : Nat) => (d : Int))).data.toList = s.data.toList := by
    rw [strOfNums_data]
    unfold bsOf
    rw [List.map_map, List.map_map]
    conv => rhs; rw [← List.map_id s.data.toList]
    apply List.map_congr_left
    intro x _
    simp
  cases s with
  | mk d =>
    have := congrArg List.toArray h
    simp at this
    exact congrArg ByteArray.mk this
end Go.Proofs.YtfgoflaeclfggaaGreatDoor
end
section
namespace Go.Proofs.YtfgoflaeclfggaaGreatDoor
open Go.RowKit Go.Extern.Stop Go.Stop Go.Extern WordM NatM

set_option maxRecDepth 100000 in
set_option maxHeartbeats 4000000 in
theorem next_bad (k : Int) (p : Option Addr) (n c : Nat) (l : List Int) (w : World) (A : Nat → Addr) (hr : Roots w A) (hn : n = l.length) (h : IntV w.heap.size w p c l) (i m : Nat) (hc : chkW k l = some (i, m)) :
    Calls Tryz.prog 15 #[.int .i64 k, .slice p n c] w (Err2 w A wordOp i m (.slice none 0 0)) := by
  have hck := check_bad k p n c l w A hr hn h i m hc
  have HCK := Lib.hid hck
  clear h hc hck hr hn
  go_enter Tryz.func15, Tryz.ntmps15
  go_wp2_with fail
  refine HCK.out.mono ?_
  rintro e w1 ⟨b, rfl, hl1, hb1⟩
  have H := Lib.hid (And.intro hl1 hb1)
  clear hl1 hb1
  go_wp2_with fail
  go_ret2
  exact ⟨_, rfl, H.out.1, H.out.2⟩

/-- a text's digits as symbols -/
def sW (s : ByteArray) : List Int := (bsOf s).map fun (b : Nat) => (b : Int) - 48
theorem sW_length (s : ByteArray) : (sW s).length = s.size := by unfold sW; rw [List.length_map, bsOf_length]
theorem sW_get {s : ByteArray} {k : Nat} (h : k < s.size) : (sW s)[k]? = some ((s[k].toNat : Int) - 48) := by
  unfold sW
  rw [List.getElem?_map, bsOf_get h]; rfl
/-- of a text that is refused the number is 6 in place of 2 -/
def code6 (m : Nat) : Nat := if m = 2 then 6 else m

def ParseWRel (w : World) (n : Nat) (l : List Int) (p : Option Addr) (c : Nat) (J : Nat) (v : Value) (wr : World) : Prop :=
  ∃ j : Nat, j ≤ J ∧ v = .int .i64 (j : Int) ∧ IntO w.heap.size wr p c (l.take j ++ List.replicate (n - j) 0) ∧ Below w.heap.size w wr
theorem put_next {l : List Int} {j n : Nat} {x : Int} (h : l[j]? = some x) (hj : j < n) : (l.take j ++ List.replicate (n - j) 0).set j x = l.take (j + 1) ++ List.replicate (n - (j + 1)) 0 := by
  have hl := ltI h
  rw [List.set_append_right _ _ (by rw [List.length_take]; omega), List.length_take, Nat.min_eq_left (by omega), Nat.sub_self, List.take_add_one, h]
  obtain ⟨m, hm⟩ : ∃ m, n - j = m + 1 := ⟨n - j - 1, by omega⟩
  rw [hm, show n - (j + 1) = m by omega, List.replicate_succ]
  simp
theorem mid_len {l : List Int} {j n : Nat} (hl : j ≤ l.length) (hj : j ≤ n) : (l.take j ++ List.replicate (n - j) (0 : Int)).length = n := by simp; omega

set_option maxRecDepth 100000 in
set_option maxHeartbeats 4000000 in
theorem parseW_ok (k : Int) (s : ByteArray) (w : World) (hc : chkW k (sW s) = none) :
    Calls Tryz.prog 16 #[.int .i64 k, .string s] w (IntOk w (sW s)) := by
  obtain ⟨k, rfl, h1, h4, hl, ho⟩ := chkW_none hc
  rw [sW_length] at hl
  have H := Lib.hid ho
  have hmk := makeI s.size (by omega) w
  clear hc ho
  go_enter Tryz.func16, Tryz.ntmps16
  go_wp2_with fail
  refine (alpha_yes _ _ (by omega) (by omega)).mono ?_
  rintro e w' ⟨rfl, rfl⟩
  go_wp2_with fail
  have ho0 := IntO.made w s.size (by omega)
  have hb0 : Below w.heap.size w (w.alloc (.cells (madeCells #[.int .i64 0] s.size) 3)) := (Below.refl _ _).alloc (Nat.le_refl _) _
  have HO := Lib.hid (And.intro ho0 hb0)
  clear hmk ho0 hb0
  go_loopw [21] (fun v wr => ParseWRel w s.size (sW s) (some ⟨w.heap.size, 0, none⟩) s.size s.size v wr) (fun v _ => s.size - (intOf v).toNat)
  case atStart => exact ⟨0, Nat.zero_le _, rfl, by simpa using HO.out.1, HO.out.2⟩
  case round =>
    obtain ⟨j, hj, rfl, ho, hb⟩ := hrel
    have hlen := mid_len (l := sW s) (j := j) (n := s.size) (by rw [sW_length]; exact hj) hj
    by_cases hlt : j < s.size
    · have hx := sW_get hlt
      have hxo := H.out _ (List.mem_of_getElem? hx)
      obtain ⟨x, hxx⟩ : ∃ x, (s[j].toNat : Int) - 48 = x := ⟨_, rfl⟩
      rw [hxx] at hx hxo
      have hput := put_next hx hlt
      obtain ⟨xs, hxs⟩ : ∃ xs, (sW s).take j ++ List.replicate (s.size - j) (0 : Int) = xs := ⟨_, rfl⟩
      rw [hxs] at ho hlen hput
      have hown : wr.ownsRow w.heap.size 3 1 (.slice (some ⟨w.heap.size, 0, none⟩) s.size s.size) s.size (cI xs) := by
        unfold IntO at ho
        rwa [hlen] at ho
      obtain ⟨y, hy⟩ := getI (l := xs) (k := j) (by omega)
      have hcy : wr.cell? ⟨w.heap.size, j, none⟩ = some (.int .i64 y) := (hown.cellAt j (by omega)).trans (cI_get hy)
      have hfy : wr.frozen? ⟨w.heap.size, j, none⟩ = false := hown.frozenAt j
      obtain ⟨s1, t1⟩ := hown.stored j (.int .i64 x)
      rw [← cI_set, hput] at s1
      have hb1 : Below w.heap.size w (wr.setCell ⟨w.heap.size, j, none⟩ (.int .i64 x)) := hb.setCell (p := ⟨w.heap.size, j, none⟩) (Nat.le_refl _) _
      have hlen1 := mid_len (l := sW s) (j := j + 1) (n := s.size) (by rw [sW_length]; omega) (by omega)
      have HS := Lib.hid (And.intro s1 (And.intro hb1 hlen1))
      have hx0 : ¬ x < 0 := by omega
      have hxk : ¬ (k : Int) ≤ x := by omega
      clear ho hown hput hxs s1 t1 hb1 hb hy hx hlen hlen1 hxo
      go_wp2_with fail
      go_roundw
      case rel => exact ⟨j + 1, by omega, by go_num, by unfold IntO; rw [HS.out.2.2]; exact HS.out.1, HS.out.2.1⟩
      case measure => simp [intOf]; omega
    · obtain rfl : j = s.size := by omega
      have he : (sW s).take s.size ++ List.replicate (s.size - s.size) (0 : Int) = sW s := by
        rw [Nat.sub_self, List.replicate_zero, List.append_nil, ← sW_length, List.take_length]
      rw [he] at ho
      have HF := Lib.hid (And.intro ho hb)
      clear ho hb he hlen
      go_wp2_with fail
      go_ret2
      exact ⟨_, _, by rw [sW_length]; rfl, HF.out.1, HF.out.2⟩

set_option maxRecDepth 100000 in
set_option maxHeartbeats 4000000 in
theorem parseW_bad (k : Int) (s : ByteArray) (w : World) (A : Nat → Addr) (hr : Roots w A) (hsz : s.size ≤ maxLen) (i m : Nat) (hc : chkW k (sW s) = some (i, m)) :
    Calls Tryz.prog 16 #[.int .i64 k, .string s] w (Err2 w A wordOp i (code6 m) (.slice none 0 0)) := by
  unfold chkW at hc
  rw [sW_length] at hc
  unfold maxLen at hsz
  split at hc
  · obtain ⟨rfl, rfl⟩ := Prod.mk.inj (Option.some.inj hc)
    have HR := Lib.hid hr
    clear hr hc
    go_enter Tryz.func16, Tryz.ntmps16
    go_wp2_with fail
    refine (alpha_no _ _ (by omega)).mono ?_
    rintro e w' ⟨rfl, rfl⟩
    go_wp2_with fail
    refine (new_at wordOp 0 3 _ A HR.out (by omega)).mono ?_
    rintro e w1 ⟨b, rfl, hl1, hb1⟩
    have H := Lib.hid (And.intro hl1 hb1)
    clear hl1 hb1
    go_wp2_with fail
    go_ret2
    exact ⟨_, rfl, H.out.1, H.out.2⟩
  · split at hc
    · obtain ⟨rfl, rfl⟩ := Prod.mk.inj (Option.some.inj hc)
      have HR := Lib.hid hr
      have hk1 : 1 ≤ k := by omega
      have hk4 : k ≤ 4 := by omega
      clear hr hc
      go_enter Tryz.func16, Tryz.ntmps16
      go_wp2_with fail
      refine (alpha_yes _ _ hk1 hk4).mono ?_
      rintro e w' ⟨rfl, rfl⟩
      go_wp2_with fail
      refine (new_at wordOp 0 4 _ A HR.out (by omega)).mono ?_
      rintro e w1 ⟨b, rfl, hl1, hb1⟩
      have H := Lib.hid (And.intro hl1 hb1)
      clear hl1 hb1
      go_wp2_with fail
      go_ret2
      exact ⟨_, rfl, H.out.1, H.out.2⟩
    · obtain ⟨i', hi, he⟩ := Option.map_eq_some_iff.1 hc
      obtain ⟨rfl, rfl⟩ := Prod.mk.inj he
      obtain ⟨hil, hbad, hall⟩ := List.findIdx?_eq_some_iff_getElem.1 hi
      rw [sW_length] at hil
      have hs4 : s.size ≤ 4096 := by omega
      have hk1 : 1 ≤ k := by omega
      have hk4 : k ≤ 4 := by omega
      have H := Lib.hid (And.intro hr (And.intro hbad hall))
      have hmk := makeI s.size (by omega) w
      clear hr hc hi he hbad hall
      go_enter Tryz.func16, Tryz.ntmps16
      go_wp2_with fail
      refine (alpha_yes _ _ hk1 hk4).mono ?_
      rintro e w' ⟨rfl, rfl⟩
      go_wp2_with fail
      have ho0 := IntO.made w s.size (by omega)
      have hb0 : Below w.heap.size w (w.alloc (.cells (madeCells #[.int .i64 0] s.size) 3)) := (Below.refl _ _).alloc (Nat.le_refl _) _
      have HO := Lib.hid (And.intro ho0 hb0)
      clear hmk ho0 hb0
      go_loopw [21] (fun v wr => ParseWRel w s.size (sW s) (some ⟨w.heap.size, 0, none⟩) s.size i' v wr) (fun v _ => s.size - (intOf v).toNat)
      case atStart => exact ⟨0, Nat.zero_le _, rfl, by simpa using HO.out.1, HO.out.2⟩
      case round =>
        obtain ⟨j, hj, rfl, ho, hb⟩ := hrel
        have hlen := mid_len (l := sW s) (j := j) (n := s.size) (by rw [sW_length]; omega) (by omega)
        have hlt : j < s.size := by omega
        have hx := sW_get hlt
        have hbd : s[j].toNat < 256 := UInt8.toNat_lt _
        obtain ⟨x, hxx⟩ : ∃ x, (s[j].toNat : Int) - 48 = x := ⟨_, rfl⟩
        rw [hxx] at hx
        have hput := put_next hx hlt
        obtain ⟨xs, hxs⟩ : ∃ xs, (sW s).take j ++ List.replicate (s.size - j) (0 : Int) = xs := ⟨_, rfl⟩
        rw [hxs] at ho hlen hput
        have hown : wr.ownsRow w.heap.size 3 1 (.slice (some ⟨w.heap.size, 0, none⟩) s.size s.size) s.size (cI xs) := by
          unfold IntO at ho
          rwa [hlen] at ho
        obtain ⟨y, hy⟩ := getI (l := xs) (k := j) (by omega)
        have hcy : wr.cell? ⟨w.heap.size, j, none⟩ = some (.int .i64 y) := (hown.cellAt j (by omega)).trans (cI_get hy)
        have hfy : wr.frozen? ⟨w.heap.size, j, none⟩ = false := hown.frozenAt j
        obtain ⟨s1, t1⟩ := hown.stored j (.int .i64 x)
        rw [← cI_set, hput] at s1
        have hb1 : Below w.heap.size w (wr.setCell ⟨w.heap.size, j, none⟩ (.int .i64 x)) := hb.setCell (p := ⟨w.heap.size, j, none⟩) (Nat.le_refl _) _
        have hlen1 := mid_len (l := sW s) (j := j + 1) (n := s.size) (by rw [sW_length]; omega) (by omega)
        have HS := Lib.hid (And.intro s1 (And.intro hb1 (And.intro hlen1 hx)))
        clear ho hown hput hxs s1 t1 hb1 hb hy hx hlen hlen1
        by_cases hji : j < i'
        · have hg := H.out.2.2 j hji
          have hgx : (sW s)[j]'(by rw [sW_length]; exact hlt) = x := by
            have e := HS.out.2.2.2
            rw [List.getElem?_eq_getElem (by rw [sW_length]; exact hlt)] at e
            exact Option.some.inj e
          rw [hgx] at hg
          unfold badAt at hg
          simp at hg
          have hx0 : ¬ x < 0 := by omega
          have hxk : ¬ k ≤ x := by omega
          clear hg hgx
          go_wp2_with fail
          go_roundw
          case rel => exact ⟨j + 1, by omega, by go_num, by unfold IntO; rw [HS.out.2.2.1]; exact HS.out.1, HS.out.2.1⟩
          case measure => simp [intOf]; omega
        · obtain rfl : j = i' := by omega
          have hg := H.out.2.1
          have hgx : (sW s)[j]'(by rw [sW_length]; exact hlt) = x := by
            have e := HS.out.2.2.2
            rw [List.getElem?_eq_getElem (by rw [sW_length]; exact hlt)] at e
            exact Option.some.inj e
          rw [hgx] at hg
          unfold badAt at hg
          simp at hg
          clear hgx
          rcases Int.lt_or_le x 0 with hx1 | hx1
          · clear hg
            go_wp2_with fail
            refine (new_at wordOp j 6 _ A (H.out.1.below HS.out.2.1) (by omega)).mono ?_
            rintro e w1 ⟨b, rfl, hl1, hb1⟩
            have HF := Lib.hid (And.intro hl1 (HS.out.2.1.trans (hb1.mono HS.out.2.1.size)))
            clear hl1 hb1
            go_wp2_with fail
            go_ret2
            exact ⟨_, rfl, HF.out.1, HF.out.2⟩
          · have hx2 : k ≤ x := by omega
            have hx3 : ¬ x < 0 := by omega
            clear hg
            go_wp2_with fail
            refine (new_at wordOp j 6 _ A (H.out.1.below HS.out.2.1) (by omega)).mono ?_
            rintro e w1 ⟨b, rfl, hl1, hb1⟩
            have HF := Lib.hid (And.intro hl1 (HS.out.2.1.trans (hb1.mono HS.out.2.1.size)))
            clear hl1 hb1
            go_wp2_with fail
            go_ret2
            exact ⟨_, rfl, HF.out.1, HF.out.2⟩
end Go.Proofs.YtfgoflaeclfggaaGreatDoor
end
section
namespace Go.Proofs.YtfgoflaeclfggaaGreatDoor
open Go.RowKit Go.Extern.Stop Go.Stop Go.Extern WordM NatM

theorem makeB (n : Nat) (hn : n ≤ 17592186044000) (w : World) :
    (Instr.makeSlice 114 (.int .i64 (n : Int)) (.int .i64 (n : Int))).run Tryz.prog w = .ok (.slice (some ⟨w.heap.size, 0, none⟩) n n) (w.alloc (.cells (madeCells #[.int .u8 0] n) 5)) := by
  obtain ⟨i0, hi, hz0, hz1, hz2⟩ := info_parts info8
  have h := run_make (P := Tryz.prog) w 114 5 i0 (.int .u8 0) Tryz.underlying114 hi hz0 .i64 .i64 n n (by omega) (by omega) (by rw [hz2]; omega) (by omega)
  rw [hz1] at h
  simpa [Value.cells] using h
/-- bytes in a block of the call's own -/
def ByteO (base : Nat) (w : World) (g n : Nat) (l : List Nat) : Prop := w.ownsRow base 5 1 (.slice (some ⟨g, 0, none⟩) n n) n (cells8 l)
theorem ByteO.made (w : World) (n : Nat) (hn : n ≤ 17592186044000) : ByteO w.heap.size (w.alloc (.cells (madeCells #[.int .u8 0] n) 5)) w.heap.size n (List.replicate n 0) := by
  refine ⟨by simp [cells8], Or.inr ⟨w.heap.size, n, madeCells #[.int .u8 0] n, rfl, Nat.le_refl _, heap_newN _ _, Nat.le_refl _, by unfold maxLen; omega, by rw [size_madeCells, Nat.mul_one], ?_⟩⟩
  rw [madeI_list, Nat.mul_one, List.take_of_length_le (by simp)]
  simp [cells8]

/-- the digits of a word's text -/
def txL (l : List Int) : List Nat := l.map fun x => 48 + x.toNat
def txW (l : List Int) : ByteArray := strOfNums ((txL l).map fun (d : Nat) => (d : Int))
theorem txL_length (l : List Int) : (txL l).length = l.length := by simp [txL]
theorem txL_get {l : List Int} {j : Nat} {x : Int} (h : l[j]? = some x) : (txL l)[j]? = some (48 + x.toNat) := by simp [txL, h]
theorem txW_size (l : List Int) : (txW l).size = l.length := by unfold txW; rw [strOfNums_size, List.length_map, txL_length]
/-- read back -/
theorem sW_txW {k : Nat} (hk : k ≤ 4) {l : List Int} (h : okW k l) : sW (txW l) = l := by
  unfold sW txW
  rw [bsOf_strOfNums]
  · unfold txL
    rw [List.map_map]
    conv => rhs; rw [← List.map_id l]
    apply List.map_congr_left
    intro x hx
    have := h x hx
    simp
    omega
  · intro x hx
    unfold txL at hx
    obtain ⟨y, hy, rfl⟩ := List.mem_map.1 hx
    have := h y hy
    omega
/-- written again -/
theorem txW_sW {k : Nat} {s : ByteArray} (h : okW k (sW s)) : txW (sW s) = s := by
  unfold txW
  have e : txL (sW s) = bsOf s := by
    unfold txL
    unfold sW at h ⊢
    rw [List.map_map]
    conv => rhs; rw [← List.map_id (bsOf s)]
    apply List.map_congr_left
    intro x hx
    have := h ((x : Int) - 48) (List.mem_map.2 ⟨x, hx, rfl⟩)
    simp
    omega
  rw [e, strOfNums_bsOf]
theorem put_nextB {l : List Nat} {j n x : Nat} (h : l[j]? = some x) (hj : j < n) : (l.take j ++ List.replicate (n - j) 0).set j x = l.take (j + 1) ++ List.replicate (n - (j + 1)) 0 := by
  have hl := (List.getElem?_eq_some_iff.1 h).1
  rw [List.set_append_right _ _ (by rw [List.length_take]; omega), List.length_take, Nat.min_eq_left (by omega), Nat.sub_self, List.take_add_one, h]
  obtain ⟨m, hm⟩ : ∃ m, n - j = m + 1 := ⟨n - j - 1, by omega⟩
  rw [hm, show n - (j + 1) = m by omega, List.replicate_succ]
  simp

/-- a text, and no error -/
def StrOk (w : World) (s : ByteArray) (e : Ending) (w' : World) : Prop := e = .returned (.tuple #[.string s, .nilIface]) ∧ Below w.heap.size w w'
def TextWRel (w : World) (n g : Nat) (l : List Int) (v : Value) (wr : World) : Prop :=
  ∃ j : Nat, j ≤ n ∧ v = .int .i64 (j : Int) ∧ ByteO w.heap.size wr g n ((txL l).take j ++ List.replicate (n - j) 0) ∧ Below w.heap.size w wr
set_option maxRecDepth 100000 in
set_option maxHeartbeats 4000000 in
theorem textW_ok (k : Int) (p : Option Addr) (n c : Nat) (l : List Int) (w : World) (hn : n = l.length) (h : IntV w.heap.size w p c l) (hc : chkW k l = none) :
    Calls Tryz.prog 29 #[.int .i64 k, .slice p n c] w (StrOk w (txW l)) := by
  have hck := check_ok k p n c l w hn h hc
  obtain ⟨k, rfl, h1, h4, hl, ho⟩ := chkW_none hc
  have hle := h.le
  have hcap := h.cap
  unfold maxLen at hcap
  have hn4 : n ≤ 4096 := by omega
  have hnc : n ≤ c := by omega
  have H := Lib.hid (And.intro h (And.intro ho hn))
  have HCK := Lib.hid hck
  clear h hc hl ho hck hn hle
  go_enter Tryz.func29, Tryz.ntmps29
  go_wp2_with fail
  refine HCK.out.mono ?_
  rintro e w1 ⟨rfl, hb1⟩
  have hmk := makeB n (by omega) w1
  have ho0 := ByteO.made w1 n (by omega)
  have hb0 : Below w.heap.size w (w1.alloc (.cells (madeCells #[.int .u8 0] n) 5)) := hb1.alloc hb1.size _
  have HO := Lib.hid (And.intro ho0 (And.intro hb0 (And.intro (ownsRow_base hb1.size ho0 : ByteO w.heap.size _ _ _ _) hb1)))
  clear ho0 hb0 hb1
  go_wp2_with fail
  clear hmk
  go_loopw [21] (fun v wr => TextWRel w n w1.heap.size l v wr) (fun v _ => n - (intOf v).toNat)
  case atStart => exact ⟨0, Nat.zero_le _, rfl, by rw [List.take_zero, List.nil_append, Nat.sub_zero]; exact HO.out.2.2.1, HO.out.2.1⟩
  case round =>
    obtain ⟨j, hj, rfl, ho, hb⟩ := hrel
    obtain ⟨g, hg⟩ : ∃ g, g = w1.heap.size := ⟨_, rfl⟩
    have hgB : w.heap.size ≤ g := by rw [hg]; exact HO.out.2.2.2.size
    rw [← hg] at ho ⊢
    have HG := Lib.hid hg
    clear hg
    by_cases hlt : j < n
    · have hnl := H.out.2.2
      obtain ⟨b, off, rfl, hbb, hcc⟩ := (H.out.1.next hb).cell (by rintro rfl; simp at hnl; omega)
      obtain ⟨x, hx⟩ := getI (l := l) (k := j) (by omega)
      have hxo := H.out.2.1 x (List.mem_of_getElem? hx)
      obtain ⟨y, rfl⟩ : ∃ y : Nat, x = (y : Int) := ⟨x.toNat, by omega⟩
      have hy4 : y ≤ 4 := by omega
      have hcx := hcc j _ hx
      have hput := put_nextB (n := n) (txL_get hx) hlt
      rw [Int.toNat_natCast] at hput
      obtain ⟨xs, hxs⟩ : ∃ xs, (txL l).take j ++ List.replicate (n - j) 0 = xs := ⟨_, rfl⟩
      have hlx : xs.length = n := by rw [← hxs, List.length_append, List.length_take, txL_length, List.length_replicate]; omega
      rw [hxs] at ho hput
      have hown : wr.ownsRow w.heap.size 5 1 (.slice (some ⟨g, 0, none⟩) n n) n (cells8 xs) := ho
      obtain ⟨z, hz⟩ : ∃ z, xs[j]? = some z := ⟨_, List.getElem?_eq_getElem (by omega)⟩
      have hcz : wr.cell? ⟨g, j, none⟩ = some (.int .u8 (z : Int)) := (hown.cellAt j (by omega)).trans (cells8_get hz)
      have hfz : wr.frozen? ⟨g, j, none⟩ = false := hown.frozenAt j
      obtain ⟨s1, t1⟩ := hown.stored j (.int .u8 (48 + (y : Int)))
      have e48 : (48 + (y : Int)) = ((48 + y : Nat) : Int) := by omega
      have hcs : (cells8 xs).set j (.int .u8 (48 + (y : Int))) = cells8 (xs.set j (48 + y)) := by rw [cells8_set, e48]
      rw [hcs, hput] at s1
      have hb1 : Below w.heap.size w (wr.setCell ⟨g, j, none⟩ (.int .u8 (48 + (y : Int)))) := hb.setCell (p := ⟨g, j, none⟩) hgB _
      have HS := Lib.hid (And.intro s1 hb1)
      clear ho hown hput hxs s1 t1 hb1 hb hz hx hlx hxo e48 hcs hcc hnl
      go_wp2_with fail
      go_roundw
      case rel => exact ⟨j + 1, by omega, by go_num, by first | exact HS.out.1 | (rw [← HG.out]; exact HS.out.1), HS.out.2⟩
      case measure => simp [intOf]; omega
    · obtain rfl : j = n := by omega
      have he : (txL l).take j ++ List.replicate (j - j) 0 = txL l := by
        rw [Nat.sub_self, List.replicate_zero, List.append_nil, H.out.2.2, ← txL_length, List.take_length]
      rw [he] at ho
      have hown : wr.ownsRow w.heap.size 5 1 (.slice (some ⟨g, 0, none⟩) j j) j (cells8 (txL l)) := ho
      have htl : (txL l).length = j := by rw [txL_length, H.out.2.2]
      have hcv := run_convert_bytes_arg (P := Tryz.prog) wr 114 5 Tryz.underlying114 Tryz.underlying5 g 0 j j ((txL l).map fun (b : Nat) => (b : Int)) (by simp [htl]) (fun i hi => by
        rw [Nat.zero_add]
        have hir : i < (txL l).length := by omega
        rw [hown.cellAt i (by omega), cells8_get (List.getElem?_eq_getElem hir)]
        simp [List.getD_eq_getElem?_getD, hir]) 9 Tryz.underlying9
      have HB := Lib.hid hb
      clear ho hown he htl hb
      go_wp2_with fail
      go_ret2
      exact ⟨rfl, HB.out⟩
theorem textW_bad (k : Int) (p : Option Addr) (n c : Nat) (l : List Int) (w : World) (A : Nat → Addr) (hr : Roots w A) (hn : n = l.length) (h : IntV w.heap.size w p c l) (i m : Nat) (hc : chkW k l = some (i, m)) :
    Calls Tryz.prog 29 #[.int .i64 k, .slice p n c] w (Err2 w A wordOp i m (.string .empty)) := by
  have hck := check_bad k p n c l w A hr hn h i m hc
  have HCK := Lib.hid hck
  clear h hc hck hr hn
  go_enter Tryz.func29, Tryz.ntmps29
  go_wp2_with fail
  refine HCK.out.mono ?_
  rintro e w1 ⟨b, rfl, hl1, hb1⟩
  have H := Lib.hid (And.intro hl1 hb1)
  clear hl1 hb1
  go_wp2_with fail
  go_ret2
  exact ⟨_, rfl, H.out.1, H.out.2⟩
end Go.Proofs.YtfgoflaeclfggaaGreatDoor
end
