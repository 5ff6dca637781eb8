/- Package word by its contracts, first part: alphabet, Check.
Package rule by its contracts, first part: Size, stray.
Package nat by its contracts, first part: trim, sign, Cmp, and the tests of the statements.
Package nat by its contracts, second part: Cmp, Add32, raise, Sum, Add.
Package nat by its contracts, third part: raise, Sum, Add.
The document's own package of numbers (edenref02) by its contracts, first part: cut, half, whole, Norm.
Package nat by its contracts, fourth part: Mul.
Package nat by its contracts, fifth part: Div32, divide, extend, slices.Clone.
Package nat by its contracts, sixth part: slices.Reverse, Text.
Plain mathematics of decimal texts: which are numbers, which number, and back; no part of the program.
Package nat by its contracts, seventh part: Parse.
Plain mathematics of differences of lists of digits; no part of the program.
Package nat by its contracts, eighth part: Sub32, Sub, Over, From, Pow.
The statements' own tests: awake, normal, long.
Plain mathematics of binary digits; no part of the program.
Package nat by its contracts, ninth part: Over, From, Pow, Bits.
The document's own package of numbers by its contracts, second part: Norm, Fits, From, Low, Cmp.
The document's own package of numbers by its contracts, third part: Cmp, Low.
The document's own package of numbers by its contracts, fourth part: Add, Sum.
The document's own package of numbers by its contracts, fifth part: Sum.
What the statements ask of errors: edenraw.Root, edenraw.New and edenraw.Is, by contracts.
The document's own package of numbers by its contracts, sixth part: Sub.
Package rule by its contracts, second part: Check, smallSize, Small.
An error told by one package after another: a chain of Faults over api's error.
Plain mathematics of rules that are sums: digits of numbers, sums of symbols times factors.
Plain mathematics of rules that are made from rules: mirrored, renamed, wider and narrower. -/
import Derived.Test.YtmienemnjikgdaaDoorB1
import Derived.Deep.DeepCutAuto
import Derived.Deep.RegionWith
import Derived.Laws.Rows
import Derived.Deep.AppendLies
import Derived.Deep.RegionHeld3
import Derived.Laws.MakeOwn
import Derived.Laws.BitsAllLaws
import Derived.WalkSpells
import Derived.Maps.AppendAt
import Derived.OwnWalk
import Derived.RegionTactic
import Derived.ChangeAlike
import Derived.Laws.BytesArg
import Derived.Deep.LoopGhost
import Derived.Outline
section
namespace Go.Proofs.YtmienemnjikgdaaDoor
open Go.RowKit Go.Extern.Stop Go.Stop Go.Extern WordM

def wordOp : ByteArray := { data := #[119, 111, 114, 100] }


end Go.Proofs.YtmienemnjikgdaaDoor
end
section
namespace Go.Proofs.YtmienemnjikgdaaDoor
open Go.RowKit Go.Extern.Stop Go.Stop Go.Extern WordM RuleM

def ruleOp : ByteArray := { data := #[114, 117, 108, 101] }

theorem small_sq {k : Nat} (h4 : k ≤ 4) : k * k ≤ 16 := Nat.mul_le_mul h4 h4
theorem small_pow {k j : Nat} (h4 : k ≤ 4) (h : j ≤ 2) : k ^ (2 * j + 1) ≤ 1024 :=
  Nat.le_trans (Nat.pow_le_pow_left h4 _) (Nat.le_trans (Nat.pow_le_pow_right (by omega) (by omega : 2 * j + 1 ≤ 5)) (by decide))
theorem pow_next (k j : Nat) : k ^ (2 * j + 1) * (k * k) = k ^ (2 * (j + 1) + 1) := by
  rw [show 2 * (j + 1) + 1 = 2 * j + 1 + 1 + 1 by omega, Nat.pow_succ k (2 * j + 1 + 1), Nat.pow_succ k (2 * j + 1), Nat.mul_assoc]
/-- how many windows, and no error -/
def SizeOk (w : World) (n : Nat) (e : Ending) (w' : World) : Prop := e = .returned (.tuple #[.int .i64 (n : Int), .nilIface]) ∧ w = w'
set_option maxHeartbeats 1000000 in
theorem size_ok (k r : Nat) (w : World) (h1 : 1 ≤ k) (h4 : k ≤ 4) (h3 : r ≤ 3) :
    Calls Tryd.prog 72 #[.int .i64 (k : Int), .int .i64 (r : Int)] w (SizeOk w (k ^ (2 * r + 1))) := by
  go_enter Tryd.func72, Tryd.ntmps72
  go_wp2_with fail
  go_loop [6, 24] (fun v6 v24 => ∃ j : Nat, j ≤ r ∧ v24 = .int .i64 (j : Int) ∧ v6 = .int .i64 ((k ^ (2 * j + 1) : Nat) : Int)) (fun _ v => r - (intOf v).toNat)
  case atStart => exact ⟨0, Nat.zero_le _, rfl, by simp⟩
  case round =>
    obtain ⟨j, hj, rfl, rfl⟩ := hrel
    by_cases hlt : j < r
    · have hs := small_pow (j := j) h4 (by omega)
      have hq := small_sq h4
      have hn := pow_next k j
      have hqq : ((k : Int) * (k : Int)) = ((k * k : Nat) : Int) := by push_cast; rfl
      obtain ⟨s, hs'⟩ : ∃ s, k ^ (2 * j + 1) = s := ⟨_, rfl⟩
      obtain ⟨q, hq'⟩ : ∃ q, k * k = q := ⟨_, rfl⟩
      rw [hs', hq'] at hn
      rw [hs'] at hs ⊢
      rw [hq'] at hq hqq
      have hsq : s * q ≤ 1024 * 16 := Nat.mul_le_mul hs hq
      have hsm : ((s : Int) * (q : Int)) = ((s * q : Nat) : Int) := by push_cast; rfl
      rw [hn] at hsq hsm
      obtain ⟨u, hu⟩ : ∃ u, k ^ (2 * (j + 1) + 1) = u := ⟨_, rfl⟩
      rw [hu] at hsq hsm
      have w1 : IntKind.i64.wrap ((k : Int) * (k : Int)) = (q : Int) := by rw [hqq, IntWalk.i64_in _ (by omega)]
      have w2 : IntKind.i64.wrap ((s : Int) * (q : Int)) = (u : Int) := by rw [hsm, IntWalk.i64_in _ (by omega)]
      have HU := Lib.hid hu
      clear hn hs' hq' hqq hsm hu
      go_wp2_with fail
      go_round
      case rel => exact ⟨j + 1, by omega, by go_num, by rw [HU.out]⟩
      case measure => simp [intOf]; omega
    · obtain rfl : j = r := by omega
      go_wp2_with fail
      go_ret2
      exact ⟨rfl, rfl⟩
theorem size_bad (k r : Int) (w : World) (A : Nat → Addr) (hr : Roots w A) (h : (k < 1 ∨ 4 < k) ∨ r < 0 ∨ 3 < r) :
    Calls Tryd.prog 72 #[.int .i64 k, .int .i64 r] w (Err2 w A ruleOp 0 3 (.int .i64 0)) := by
  have HR := Lib.hid hr
  clear hr
  rcases (by omega : k < 1 ∨ (¬ k < 1 ∧ 4 < k) ∨ (¬ k < 1 ∧ ¬ 4 < k ∧ r < 0) ∨ (¬ k < 1 ∧ ¬ 4 < k ∧ ¬ r < 0 ∧ 3 < r)) with h1 | ⟨h1, h2⟩ | ⟨h1, h2, h3⟩ | ⟨h1, h2, h3, h4⟩
  all_goals
    clear h
    go_enter Tryd.func72, Tryd.ntmps72
    go_wp2_with fail
    refine (new_at ruleOp 0 3 _ A HR.out (by omega)).mono ?_
    rintro e w1 ⟨b, rfl, hl1, hb1⟩
    have H := Lib.hid (And.intro hl1 hb1)
    clear hl1 hb1
    go_wp2_with fail
    go_ret2
    exact ⟨_, rfl, H.out.1, H.out.2⟩

/-- the place of the first number that is none of k symbols; the length, where there is none -/
def strayN (k : Int) (l : List Int) : Nat := (l.findIdx? (badAt k)).getD l.length
theorem stray_any (k : Int) (p : Option Addr) (n c : Nat) (l : List Int) (w : World) (hn : n = l.length) (h : IntV w.heap.size w p c l) :
    Calls Tryd.prog 49 #[.int .i64 k, .slice p n c] w fun e w' => e = .returned (.int .i64 (strayN k l : Int)) ∧ w = w' := by
  have hle := h.le
  have hcap := h.cap
  unfold maxLen at hcap
  have hnc : n ≤ c := by omega
  obtain ⟨z, hz⟩ : ∃ z, strayN k l = z := ⟨_, rfl⟩
  rw [hz]
  unfold strayN at hz
  have hcases : (z = n ∧ ∀ (j : Nat) (x : Int), l[j]? = some x → badAt k x = false) ∨ (z < n ∧ (∃ x : Int, l[z]? = some x ∧ badAt k x = true) ∧ ∀ (j : Nat) (x : Int), j < z → l[j]? = some x → badAt k x = false) := by
    cases hf : l.findIdx? (badAt k) with
    | none =>
      rw [hf] at hz
      left
      refine ⟨by rw [← hz, hn]; rfl, fun j x hx => ?_⟩
      rw [List.findIdx?_eq_none_iff] at hf
      exact hf x (List.mem_of_getElem? hx)
    | some i =>
      rw [hf] at hz
      obtain rfl : i = z := hz
      obtain ⟨hil, hbad, hall⟩ := List.findIdx?_eq_some_iff_getElem.1 hf
      right
      refine ⟨by omega, ⟨_, List.getElem?_eq_getElem hil, hbad⟩, fun j x hj hx => ?_⟩
      have := hall j hj
      rw [List.getElem?_eq_getElem (by omega)] at hx
      obtain rfl := Option.some.inj hx
      simpa using this
  have hzn : z ≤ n := by rcases hcases with ⟨h1, _⟩ | ⟨h1, _⟩ <;> omega
  have H := Lib.hid (And.intro h (And.intro hn hcases))
  clear h hz hn hle hcases
  go_enter Tryd.func49, Tryd.ntmps49
  go_wp2_with fail
  go_loop [9] (fun v => ∃ j : Nat, j ≤ z ∧ v = .int .i64 (j : Int)) (fun v => n - (intOf v).toNat)
  case atStart => exact ⟨0, Nat.zero_le _, rfl⟩
  case round =>
    obtain ⟨j, hj, rfl⟩ := hrel
    by_cases hlt : j < n
    · have hnl := H.out.2.1
      obtain ⟨b, off, rfl, hb, hc⟩ := H.out.1.cell (by rintro rfl; simp at hnl; omega)
      obtain ⟨x, hx⟩ := getI (l := l) (k := j) (by omega)
      have hcx := hc j x hx
      by_cases hjz : j < z
      · have hg : badAt k x = false := by
          rcases H.out.2.2 with ⟨_, h2⟩ | ⟨_, _, h2⟩
          · exact h2 j x hx
          · exact h2 j x hjz hx
        unfold badAt at hg
        simp at hg
        have hx1 : ¬ x < 0 := by omega
        have hx2 : ¬ k ≤ x := by omega
        clear hc hx hg hnl
        go_wp2_with fail
        go_round
        case rel => exact ⟨j + 1, by omega, by go_num⟩
        case measure => simp [intOf]; omega
      · obtain rfl : j = z := by omega
        have hg : badAt k x = true := by
          rcases H.out.2.2 with ⟨h1, _⟩ | ⟨_, ⟨y, hy, h2⟩, _⟩
          · omega
          · rw [hx] at hy
            obtain rfl := Option.some.inj hy
            exact h2
        unfold badAt at hg
        simp at hg
        clear hc hx hnl
        rcases Int.lt_or_le x 0 with hx1 | hx1
        · clear hg
          go_wp2_with fail
          go_ret
          exact ⟨rfl, rfl⟩
        · have hx2 : k ≤ x := by omega
          have hx3 : ¬ x < 0 := by omega
          clear hg
          go_wp2_with fail
          go_ret
          exact ⟨rfl, rfl⟩
    · obtain rfl : j = n := by omega
      obtain rfl : j = z := by omega
      go_wp2_with fail
      go_ret
      exact ⟨rfl, rfl⟩
end Go.Proofs.YtmienemnjikgdaaDoor
end
section
namespace Go.Proofs.YtmienemnjikgdaaDoor
open Go.RowKit NatM

def D32 (n : Nat) : List Nat := digs 4294967296 n
def V32 (l : List Nat) : Nat := valB 4294967296 l
def ok32 (l : List Nat) : Prop := okB 4294967296 l
theorem V32_D32 (n : Nat) : V32 (D32 n) = n := valB_digs (by omega) n
theorem D32_ok (n : Nat) : ok32 (D32 n) := digs_ok (by omega) n
theorem D32_nrm (n : Nat) : nrm (D32 n) := digs_nrm (by omega) n
theorem D32_inj {m n : Nat} (h : D32 m = D32 n) : m = n := digs_inj (by omega) h
theorem D32_nil {n : Nat} : D32 n = [] ↔ n = 0 := digs_eq_nil (by omega)
theorem trim32 {l : List Nat} (h : ok32 l) : ∃ k, k ≤ l.length ∧ l.take k = D32 (V32 l) := trim_ex (by omega) h
theorem D32_le {l : List Nat} (h : ok32 l) : (D32 (V32 l)).length ≤ l.length := by
  obtain ⟨k, hk, e⟩ := trim32 h
  rw [← e, List.length_take]; exact Nat.min_le_right _ _
theorem D32_len {n k : Nat} (h : n < 4294967296 ^ k) : (D32 n).length ≤ k := digs_length_le (by omega) h
theorem V32_lt {l : List Nat} (h : ok32 l) : V32 l < 4294967296 ^ l.length := valB_lt (by omega) h

/-- A slice of limbs below block B: it reads l. -/
structure NatV (B : Nat) (w : World) (p : Option Addr) (c : Nat) (l : List Nat) : Prop where
  ok : ok32 l
  le : l.length ≤ c
  cap : c ≤ maxLen
  nil : p = none → c = 0
  cell : l ≠ [] → ∃ b off, p = some ⟨b, off, none⟩ ∧ b < B ∧ ∀ (j x : Nat), l[j]? = some x → w.cell? ⟨b, off + j, none⟩ = some (.int .u32 (x : Int))

theorem NatV.below {B : Nat} {w w' : World} {p : Option Addr} {c : Nat} {l : List Nat} (hb : Below B w w') (h : NatV B w p c l) : NatV B w' p c l :=
  ⟨h.ok, h.le, h.cap, h.nil, fun hn => by
    obtain ⟨b, off, hp, hlt, hc⟩ := h.cell hn
    exact ⟨b, off, hp, hlt, fun j x hx => (hb.cell (p := ⟨b, off + j, none⟩) hlt).trans (hc j x hx)⟩⟩
theorem NatV.mono {B B' : Nat} {w : World} {p : Option Addr} {c : Nat} {l : List Nat} (hB : B ≤ B') (h : NatV B w p c l) : NatV B' w p c l :=
  ⟨h.ok, h.le, h.cap, h.nil, fun hn => by
    obtain ⟨b, off, hp, hlt, hc⟩ := h.cell hn
    exact ⟨b, off, hp, by omega, hc⟩⟩
/-- in a later world, under its own heap's size -/
theorem NatV.next {w w' : World} {p : Option Addr} {c : Nat} {l : List Nat} (hb : Below w.heap.size w w') (h : NatV w.heap.size w p c l) : NatV w'.heap.size w' p c l :=
  (h.below hb).mono hb.size
theorem NatV.take {B : Nat} {w : World} {p : Option Addr} {c : Nat} {l : List Nat} (h : NatV B w p c l) (k : Nat) : NatV B w p c (l.take k) :=
  ⟨okB_take h.ok k, Nat.le_trans (by rw [List.length_take]; exact Nat.min_le_right _ _) h.le, h.cap, h.nil, fun hn => by
    have hne : l ≠ [] := by rintro rfl; simp at hn
    obtain ⟨b, off, hp, hlt, hc⟩ := h.cell hne
    refine ⟨b, off, hp, hlt, fun j x hx => hc j x ?_⟩
    rw [List.getElem?_take] at hx
    split at hx
    · exact hx
    · cases hx⟩
theorem NatV.trim {B : Nat} {w : World} {p : Option Addr} {c : Nat} {l : List Nat} (h : NatV B w p c l) : NatV B w p c (D32 (V32 l)) := by
  obtain ⟨k, _, e⟩ := trim32 h.ok
  rw [← e]; exact h.take k

def cells32 (l : List Nat) : List Value := l.map fun (x : Nat) => Value.int .u32 (x : Int)
theorem cells32_length (l : List Nat) : (cells32 l).length = l.length := by simp [cells32]
theorem cells32_get {l : List Nat} {j x : Nat} (h : l[j]? = some x) : (cells32 l)[j]? = some (.int .u32 (x : Int)) := by simp [cells32, h]

/-- A slice of limbs that the call owns, in a block from base on: it reads l. -/
structure NatO (base : Nat) (w : World) (p : Option Addr) (c : Nat) (l : List Nat) : Prop where
  own : w.ownsRow base 144 1 (.slice p l.length c) l.length (cells32 l)
  ok : ok32 l
theorem NatO.next {base : Nat} {w w' : World} {p : Option Addr} {c : Nat} {l : List Nat} (hb : Below w.heap.size w w') (h : NatO base w p c l) : NatO base w' p c l := ⟨ownsRow_below hb h.own, h.ok⟩
theorem NatO.base {base base' : Nat} {w : World} {p : Option Addr} {c : Nat} {l : List Nat} (hB : base' ≤ base) (h : NatO base w p c l) : NatO base' w p c l := ⟨ownsRow_base hB h.own, h.ok⟩
theorem NatO.toV {base : Nat} {w : World} {p : Option Addr} {c : Nat} {l : List Nat} (h : NatO base w p c l) : NatV w.heap.size w p c l := by
  rcases own_shape h.own with ⟨hv, h0, _⟩ | ⟨g, cap, hv, hg, hlt, hc, hm, hcl, _⟩
  · obtain ⟨rfl, _, rfl⟩ := by simpa using hv
    exact ⟨h.ok, by omega, Nat.zero_le _, fun _ => rfl, fun hn => absurd (List.eq_nil_of_length_eq_zero h0) hn⟩
  · obtain ⟨rfl, rfl⟩ : p = some ⟨g, 0, none⟩ ∧ c = cap := by simpa using hv
    refine ⟨h.ok, hc, hm, (fun e => by cases e), fun _ => ⟨g, 0, rfl, hlt, fun j x hx => ?_⟩⟩
    rw [Nat.zero_add]
    exact (hcl j (get_lt hx)).trans (cells32_get hx)
/-- a piece of an own slice from its head on -/
theorem NatO.slice_own {base : Nat} {w : World} {v : Value} {l : List Nat} (h : w.ownsRow base 144 1 v l.length (cells32 l)) (ok : ok32 l) : ∃ p c, v = .slice p l.length c ∧ NatO base w p c l := by
  rcases own_shape h with ⟨rfl, h0, _⟩ | ⟨g, cap, rfl, _⟩
  · obtain rfl := List.eq_nil_of_length_eq_zero h0
    exact ⟨none, 0, rfl, h, ok⟩
  · exact ⟨_, _, rfl, h, ok⟩
theorem NatO.take {base : Nat} {w : World} {p : Option Addr} {c : Nat} {l : List Nat} (h : NatO base w p c l) (k : Nat) : NatO base w p c (l.take k) := by
  obtain ⟨⟨hx, hr⟩, ok⟩ := h
  have hk : (l.take k).length ≤ l.length := by rw [List.length_take]; exact Nat.min_le_right _ _
  refine ⟨⟨by rw [cells32_length, Nat.mul_one], ?_⟩, okB_take ok k⟩
  rcases hr with ⟨hv, h0⟩ | ⟨g, cap, cur, hv, hg, hh, hc, hm, hs, ht⟩
  · obtain ⟨rfl, h1, rfl⟩ := by simpa using hv
    have : (l.take k).length = 0 := by omega
    exact Or.inl ⟨by rw [this], this⟩
  · obtain ⟨rfl, rfl⟩ : p = some ⟨g, 0, none⟩ ∧ c = cap := by simpa using hv
    refine Or.inr ⟨g, c, cur, rfl, hg, hh, by omega, hm, hs, ?_⟩
    have : cells32 (l.take k) = (cells32 l).take (l.take k).length := by
      unfold cells32
      rw [List.map_take, List.length_take]
      rcases Nat.le_total k l.length with h1 | h1
      · rw [Nat.min_eq_left h1]
      · rw [Nat.min_eq_right h1, List.take_of_length_le (by simpa using h1), List.take_of_length_le (by simp)]
    rw [this, ← ht, List.take_take, Nat.mul_one, Nat.mul_one, Nat.min_eq_left hk]
theorem NatO.trim {base : Nat} {w : World} {p : Option Addr} {c : Nat} {l : List Nat} (h : NatO base w p c l) : NatO base w p c (D32 (V32 l)) := by
  obtain ⟨k, _, e⟩ := trim32 h.ok
  rw [← e]; exact h.take k



end Go.Proofs.YtmienemnjikgdaaDoor
end
section
namespace Go.Proofs.YtmienemnjikgdaaDoor
open Go.RowKit NatM

theorem lt_of_drop {a b : List Nat} {i x y : Nat} (ha : ok32 a) (hx : a[i]? = some x) (hy : b[i]? = some y) (hd : a.drop (i + 1) = b.drop (i + 1)) (hlt : x < y) : V32 a < V32 b := lt_atq (by omega) ha hx hy hd hlt
theorem cmp_len {m n : Nat} (h : (D32 m).length < (D32 n).length) : m < n := digs_length_lt (by omega) h

/-- of two numbers -/
def cmpV (a b : List Nat) : Value := .int .i64 (cmpN (V32 a) (V32 b))


end Go.Proofs.YtmienemnjikgdaaDoor
end
section
namespace Go.Proofs.YtmienemnjikgdaaDoor
open Go.RowKit NatM

theorem info32 : (Tryd.prog.info? 144).map (fun i => (i.zero, i.size, i.bytes)) = some (some (.int .u32 0), 1, 4) := by kernel_rfl
theorem cell_one_new (w : World) (v : Value) (t : TypeId) : ∀ j u, [v][j]? = some u → (w.alloc (.cells #[v] t)).cell? ((⟨w.heap.size, 0, none⟩ : Addr).add j) = some u := by
  intro j u hj
  match j, hj with
  | 0, hj => simp at hj; subst hj; simp [Addr.add]
theorem cells32_snoc (l : List Nat) (x : Nat) : cells32 (l ++ [x]) = cells32 l ++ [.int .u32 (x : Int)] := by simp [cells32]
theorem NatO.snoc {base : Nat} {w : World} {v : Value} {l : List Nat} {x : Nat} (h : w.ownsRow base 144 1 v (l.length + 1) (cells32 l ++ [.int .u32 (x : Int)])) (ok : ok32 l) (hx : x < 4294967296) : ∃ p c, v = .slice p (l ++ [x]).length c ∧ NatO base w p c (l ++ [x]) :=
  NatO.slice_own (l := l ++ [x]) (by rw [cells32_snoc, List.length_append]; exact h) (okB_snoc ok hx)
theorem cells32_set (l : List Nat) (k x : Nat) : cells32 (l.set k x) = (cells32 l).set k (.int .u32 (x : Int)) := by simp [cells32, List.map_set]
/-- a store into an own slice of limbs -/
theorem NatO.store {base : Nat} {w : World} {g c : Nat} {l : List Nat} (h : NatO base w (some ⟨g, 0, none⟩) c l) (k x : Nat) (hx : x < 4294967296) :
    NatO base (w.setCell ⟨g, k, none⟩ (.int .u32 (x : Int))) (some ⟨g, 0, none⟩) c (l.set k x) := by
  obtain ⟨s1, _⟩ := h.own.stored k (.int .u32 (x : Int))
  exact ⟨by rw [List.length_set, cells32_set]; exact s1, okB_set h.ok hx k⟩
theorem NatO.shape {base : Nat} {w : World} {p : Option Addr} {c : Nat} {l : List Nat} (h : NatO base w p c l) (hl : 0 < l.length) :
    ∃ g, p = some ⟨g, 0, none⟩ ∧ base ≤ g ∧ g < w.heap.size ∧ (∀ (j x : Nat), l[j]? = some x → w.cell? ⟨g, j, none⟩ = some (.int .u32 (x : Int))) ∧ ∀ j, w.frozen? ⟨g, j, none⟩ = false := by
  rcases own_shape h.own with ⟨_, h0, _⟩ | ⟨g, cap, hv, hg, hlt, hc, hm, hcl, _⟩
  · omega
  · obtain ⟨rfl, rfl⟩ : p = some ⟨g, 0, none⟩ ∧ c = cap := by simpa using hv
    exact ⟨g, rfl, hg, hlt, fun j x hx => (hcl j (get_lt hx)).trans (cells32_get hx), fun j => h.own.frozenAt j⟩


def R32 (s m : List Nat) (k c : Nat) (t : List Nat) : Prop := RInv 4294967296 s m k c t

def RaiseRel (B : Nat) (w : World) (s m : List Nat) (gk : Nat) (v0 v5 v6 : Value) (wr : World) : Prop :=
  ∃ (k c : Nat) (t : List Nat) (p : Option Addr) (cap : Nat), v0 = .slice p t.length cap ∧ v5 = .int .u32 (c : Int) ∧ v6 = .int .i64 (k : Int) ∧ R32 s m k c t ∧ NatO B wr p cap t ∧ Below B w wr ∧ max s.length m.length + 2 - k ≤ gk

def RaisePost (B : Nat) (w : World) (n : Nat) (e : Ending) (w' : World) : Prop :=
  ∃ p c, e = .returned (.slice p (D32 n).length c) ∧ NatO B w' p c (D32 n) ∧ Below B w w'

abbrev Nt := Option Addr × Nat × List Nat
def Nt.val (x : Nt) : Value := .slice x.1 x.2.2.length x.2.1
/-- A slice of numbers. -/
structure NatsV (B : Nat) (w : World) (q : Option Addr) (c : Nat) (L : List Nt) : Prop where
  le : L.length ≤ c
  cap : c ≤ maxLen
  cell : L ≠ [] → ∃ b off, q = some ⟨b, off, none⟩ ∧ b < B ∧ ∀ (j : Nat) (x : Nt), L[j]? = some x → w.cell? ⟨b, off + j, none⟩ = some x.val
  each : ∀ x : Nt, x ∈ L → NatV B w x.1 x.2.1 x.2.2
theorem NatsV.below {B : Nat} {w w' : World} {q : Option Addr} {c : Nat} {L : List Nt} (hb : Below B w w') (h : NatsV B w q c L) : NatsV B w' q c L :=
  ⟨h.le, h.cap, fun hn => by
    obtain ⟨b, off, hp, hlt, hc⟩ := h.cell hn
    exact ⟨b, off, hp, hlt, fun j x hx => (hb.cell (p := ⟨b, off + j, none⟩) hlt).trans (hc j x hx)⟩, fun x hx => (h.each x hx).below hb⟩
theorem NatsV.mono {B B' : Nat} {w : World} {q : Option Addr} {c : Nat} {L : List Nt} (hB : B ≤ B') (h : NatsV B w q c L) : NatsV B' w q c L :=
  ⟨h.le, h.cap, fun hn => by
    obtain ⟨b, off, hp, hlt, hc⟩ := h.cell hn
    exact ⟨b, off, hp, by omega, hc⟩, fun x hx => (h.each x hx).mono hB⟩
/-- a slice literal of numbers, just laid -/
theorem NatsV.laid {w : World} (L : List Nt) (cs : Array Value) (t : TypeId) (hc : cs.toList = L.map Nt.val) (hl : L.length ≤ 1000) (h : ∀ x : Nt, x ∈ L → NatV w.heap.size w x.1 x.2.1 x.2.2) :
    NatsV (w.alloc (.cells cs t)).heap.size (w.alloc (.cells cs t)) (some ⟨w.heap.size, 0, none⟩) L.length L := by
  have hB : Below w.heap.size w (w.alloc (.cells cs t)) := (Below.refl _ _).alloc (Nat.le_refl _) _
  refine ⟨Nat.le_refl _, by unfold maxLen; omega, fun _ => ⟨w.heap.size, 0, rfl, by simp, fun j x hx => ?_⟩, fun x hx => (h x hx).next hB⟩
  rw [Nat.zero_add, cell_alloc_row, ← Array.getElem?_toList, hc]
  simp [hx]
def sumV (L : List Nt) : Nat := (L.map fun x : Nt => V32 x.2.2).sum
theorem sumV_take {L : List Nt} {k : Nat} {x : Nt} (h : L[k]? = some x) : sumV (L.take (k + 1)) = sumV (L.take k) + V32 x.2.2 := by
  obtain ⟨hk, rfl⟩ := List.getElem?_eq_some_iff.1 h
  unfold sumV
  rw [List.take_succ_eq_append_getElem hk, List.map_append, List.sum_append]
  simp
theorem sumV_le {M : Nat} : ∀ {L : List Nt}, (∀ x : Nt, x ∈ L → ok32 x.2.2 ∧ x.2.2.length ≤ M) → sumV L ≤ L.length * 4294967296 ^ M
  | [], _ => by simp [sumV]
  | x :: L, h => by
    have ih := sumV_le (L := L) (fun y hy => h y (List.mem_cons_of_mem _ hy))
    obtain ⟨h1, h2⟩ := h x List.mem_cons_self
    have h3 := V32_lt h1
    have h4 : 4294967296 ^ x.2.2.length ≤ 4294967296 ^ M := Nat.pow_le_pow_right (by omega) h2
    have e : sumV (x :: L) = V32 x.2.2 + sumV L := by simp [sumV]
    rw [e, List.length_cons, Nat.add_mul]
    omega
theorem sumV_len {M : Nat} {L : List Nt} (h : ∀ x : Nt, x ∈ L → ok32 x.2.2 ∧ x.2.2.length ≤ M) (hl : L.length ≤ 1000) : (D32 (sumV L)).length ≤ M + 1 := by
  refine D32_len (Nat.lt_of_le_of_lt (sumV_le h) ?_)
  rw [Nat.pow_succ, Nat.mul_comm]
  exact Nat.mul_lt_mul_of_pos_left (by omega) (Nat.pow_pos (by omega))

def SumRel (w : World) (L : List Nt) (v3 v8 : Value) (wr : World) : Prop :=
  ∃ (k : Nat) (p : Option Addr) (cap : Nat), k ≤ L.length ∧ v8 = .int .i64 (k : Int) ∧ v3 = .slice p (D32 (sumV (L.take k))).length cap ∧ NatO w.heap.size wr p cap (D32 (sumV (L.take k))) ∧ Below w.heap.size w wr
def NatPost (w : World) (n : Nat) (e : Ending) (w' : World) : Prop := RaisePost w.heap.size w n e w'
theorem NatO.nothing (base : Nat) (w : World) : NatO base w none 0 [] := ⟨World.ownsRow_nil _ _ _ _, okB_nil _⟩


end Go.Proofs.YtmienemnjikgdaaDoor
end
section
namespace Go.Proofs.YtmienemnjikgdaaDoor
open Go.RowKit NatM

def D16 (n : Nat) : List Nat := digs 65536 n
def V16 (l : List Nat) : Nat := valB 65536 l
theorem D16_ok (n : Nat) : okB 65536 (D16 n) := digs_ok (by omega) n
theorem D16_nrm (n : Nat) : nrm (D16 n) := digs_nrm (by omega) n
theorem V16_D16 (n : Nat) : V16 (D16 n) = n := valB_digs (by omega) n
theorem trim16 {l : List Nat} (h : okB 65536 l) : ∃ k, k ≤ l.length ∧ l.take k = D16 (V16 l) := trim_ex (by omega) h
theorem D16_le {l : List Nat} (h : okB 65536 l) : (D16 (V16 l)).length ≤ l.length := by
  obtain ⟨k, hk, e⟩ := trim16 h
  rw [← e, List.length_take]; exact Nat.min_le_right _ _
theorem NatO.trim16 {base : Nat} {w : World} {p : Option Addr} {c : Nat} {l : List Nat} (ho : okB 65536 l) (h : NatO base w p c l) : NatO base w p c (D16 (V16 l)) := by
  obtain ⟨k, _, e⟩ := Go.Proofs.YtmienemnjikgdaaDoor.trim16 ho
  rw [← e]; exact h.take k


theorem half_take {l : List Nat} {k x : Nat} (h : l[k]? = some x) : half (l.take (k + 1)) = half (l.take k) ++ [x % 65536, x / 65536] := by
  rw [take_snoc (get_lt h), half_append, get_eq h]; rfl
theorem half_ok32 {l : List Nat} (h : ok32 l) : ok32 (half l) := fun x hx => Nat.lt_of_lt_of_le (half_ok h x hx) (by omega)
theorem cells32_app (a b : List Nat) : cells32 (a ++ b) = cells32 a ++ cells32 b := by simp [cells32]
theorem D32_lift {n : Nat} : V32 (D32 n) = n := V32_D32 n

/-- own digits in base 65536 of n, none 0 at the end -/
def HalfPost (B : Nat) (w : World) (n : Nat) (e : Ending) (w' : World) : Prop :=
  ∃ p c, e = .returned (.slice p (D16 n).length c) ∧ NatO B w' p c (D16 n) ∧ Below B w w'
def HalfRel (B : Nat) (w : World) (l : List Nat) (v3 v4 : Value) (wr : World) : Prop :=
  ∃ (k : Nat) (p : Option Addr) (cap : Nat), k ≤ l.length ∧ v3 = .slice p (half (l.take k)).length cap ∧ v4 = .int .i64 (k : Int) ∧ NatO B wr p cap (half (l.take k)) ∧ Below B w wr
theorem NatO.app {base : Nat} {w : World} {v : Value} {l m : List Nat} (h : w.ownsRow base 144 1 v (l.length + m.length) (cells32 l ++ cells32 m)) (ok : ok32 l) (hm : ok32 m) : ∃ p c, v = .slice p (l ++ m).length c ∧ NatO base w p c (l ++ m) :=
  NatO.slice_own (l := l ++ m) (by rw [cells32_app, List.length_append]; exact h) (okB_append ok hm)


theorem join_app (b : List Nat) : ∀ {k : Nat} {a : List Nat}, a.length = 2 * k → join (a ++ b) = join a ++ join b
  | 0, a, h => by obtain rfl := List.eq_nil_of_length_eq_zero (by simpa using h); rfl
  | k + 1, [], h => by simp at h
  | k + 1, [_], h => by simp at h; omega
  | k + 1, x :: y :: a, h => by
    rw [List.cons_append, List.cons_append, join, join, join_app b (k := k) (by simp at h; omega)]; rfl
theorem join_two {e : List Nat} {i x y : Nat} (hi : i % 2 = 0) (hx : e[i]? = some x) (hy : e[i + 1]? = some y) : join (e.take (i + 2)) = join (e.take i) ++ [x + 65536 * y] := by
  rw [show i + 2 = i + 1 + 1 by omega, take_snoc (get_lt hy), take_snoc (get_lt hx), List.append_assoc, join_app _ (k := i / 2) (by rw [List.length_take]; have := get_lt hx; omega), get_eq hx, get_eq hy]; rfl
theorem join_one {e : List Nat} {i x : Nat} (hi : i % 2 = 0) (hx : e[i]? = some x) (hn : e.length = i + 1) : join (e.take (i + 2)) = join (e.take i) ++ [x] := by
  rw [List.take_of_length_le (by omega)]
  have h : e = e.take i ++ [x] := by
    have := take_snoc (get_lt hx)
    rw [List.take_of_length_le (by omega), get_eq hx] at this
    exact this
  rw [h, join_app _ (k := i / 2) (by rw [List.length_take]; omega), List.take_left' (by rw [List.length_take]; omega)]; rfl
theorem join_len : ∀ e : List Nat, (join e).length ≤ e.length
  | [] => Nat.le_refl _
  | [_] => Nat.le_refl _
  | _ :: _ :: e => by
    have := join_len e
    simp [join]; omega

def WholeRel (B : Nat) (w : World) (e : List Nat) (v3 v4 : Value) (wr : World) : Prop :=
  ∃ (i : Nat) (p : Option Addr) (cap : Nat), i ≤ e.length + 1 ∧ i % 2 = 0 ∧ v3 = .slice p (join (e.take i)).length cap ∧ v4 = .int .i64 (i : Int) ∧ NatO B wr p cap (join (e.take i)) ∧ Below B w wr

end Go.Proofs.YtmienemnjikgdaaDoor
end
section
namespace Go.Proofs.YtmienemnjikgdaaDoor
open Go.RowKit NatM

theorem madeCells_list (v : Value) (n : Nat) : (madeCells #[v] n).toList = List.replicate n v := by
  unfold madeCells
  rw [Array.toList_map, Array.toList_range]
  apply List.ext_getElem
  · simp
  · intro i h1 h2
    simp [Nat.mod_one]
theorem NatO.made (w : World) (n : Nat) (hn : n ≤ 1099511627776) : NatO w.heap.size (w.alloc (.cells (madeCells #[.int .u32 0] n) 144)) (some ⟨w.heap.size, 0, none⟩) n (List.replicate n 0) := by
  refine ⟨⟨by simp [cells32], Or.inr ⟨w.heap.size, n, madeCells #[.int .u32 0] n, by rw [List.length_replicate], Nat.le_refl _, heap_newN _ _, by rw [List.length_replicate]; exact Nat.le_refl _, by unfold maxLen; omega, by rw [size_madeCells, Nat.mul_one], ?_⟩⟩, okB_replicate (by omega) _⟩
  rw [madeCells_list, List.length_replicate, Nat.mul_one, List.take_of_length_le (by simp)]
  simp [cells32]

def MI (a b : List Nat) (i j x c : Nat) (P : List Nat) : Prop := MInv 4294967296 a b i j x c P
/-- What the outer loop of Mul hands on. -/
def MulRel (w : World) (a b : List Nat) (g : Nat) (v : Value) (wr : World) : Prop :=
  ∃ (i : Nat) (P : List Nat), i ≤ a.length ∧ v = .int .i64 (i : Int) ∧ MI a b i 0 0 0 P ∧ NatO w.heap.size wr (some ⟨g, 0, none⟩) P.length P ∧ Below w.heap.size w wr
/-- What the inner loop of Mul hands on. -/
def MulRel2 (w : World) (a b : List Nat) (g i x : Nat) (v8 v30 : Value) (wr : World) : Prop :=
  ∃ (j c : Nat) (P : List Nat), j ≤ b.length ∧ v8 = .int .u64 (c : Int) ∧ v30 = .int .i64 (j : Int) ∧ MI a b i j x c P ∧ NatO w.heap.size wr (some ⟨g, 0, none⟩) P.length P ∧ Below w.heap.size w wr

end Go.Proofs.YtmienemnjikgdaaDoor
end
section
namespace Go.Proofs.YtmienemnjikgdaaDoor
open Go.RowKit NatM

theorem or_split (r x : Nat) (hr : r < 4294967296) (hx : x < 4294967296) : bits .or .u64 ((r : Int) * 4294967296) (x : Int) = ((r * 4294967296 + x : Nat) : Int) := by
  have h := u64_or_nat (r * 4294967296) x (by omega) (by omega)
  rw [Int.natCast_mul] at h
  have e : r * 4294967296 ||| x = r * 4294967296 + x := by
    have := Nat.two_pow_add_eq_or_of_lt (i := 32) (b := x) hx r
    rw [Nat.mul_comm r]
    exact this.symm
  rw [e] at h
  exact h

/-- only the slice's own block, and what is new, has changed -/
def Only (p : Option Addr) (w w' : World) : Prop := w.grownBy w' (p.map (·.block))
theorem Only.refl (p : Option Addr) (w : World) : Only p w w := World.grownBy.refl w _
theorem only_of_below {a w : World} (h : Below a.heap.size a w) (row : Option Nat) : a.grownBy w row := ⟨h.os, h.tape, h.output, h.size, fun i hi _ => h.block i hi⟩
theorem Only.next {p : Option Addr} {a w w' : World} (h : Only p a w) (hb : Below w.heap.size w w') : Only p a w' := World.grownBy.trans h (only_of_below hb _)
theorem Only.setCell {g : Nat} {a w : World} (h : Only (some ⟨g, 0, none⟩) a w) (k : Nat) (u : Value) : Only (some ⟨g, 0, none⟩) a (w.setCell ⟨g, k, none⟩ u) :=
  ⟨h.os, h.tape, h.output, by simpa [World.setCell] using h.size, fun i hi hne => (Below.heap_setCell w ⟨g, k, none⟩ u i (by
    rintro rfl
    exact hne rfl)).trans (h.block i hi hne)⟩
theorem Only.below {p : Option Addr} {a w : World} {B : Nat} (h : Only p a w) (hB : B ≤ a.heap.size) (hp : ∀ x, p = some x → B ≤ x.block) : Below B a w :=
  ⟨h.os, h.tape, h.output, h.size, fun k hk => h.block k (by omega) (by
    rcases p with _ | x
    · simp
    · intro e
      have := hp x rfl
      have e2 := Option.some.inj e
      simp at e2
      omega)⟩

def VI (a : List Nat) (d k r : Nat) (t : List Nat) : Prop := VInv 4294967296 a d k r t
def DivRel (B : Nat) (w : World) (p : Option Addr) (c : Nat) (a : List Nat) (d : Nat) (v5 v6 : Value) (wr : World) : Prop :=
  ∃ (k r : Nat) (t : List Nat), k ≤ a.length ∧ v6 = .int .i64 ((k : Int) - 1) ∧ v5 = .int .u32 (r : Int) ∧ VI a d k r t ∧ NatO B wr p c t ∧ Only p w wr
/-- divide: the quotient stands where the number stood -/
def DivPost (B : Nat) (w : World) (p : Option Addr) (c : Nat) (a : List Nat) (d : Nat) (e : Ending) (w' : World) : Prop :=
  e = .returned (.int .u32 ((V32 a % d : Nat) : Int)) ∧ (∃ t, V32 t = V32 a / d ∧ t.length = a.length ∧ NatO B w' p c t) ∧ Only p w w'

def EI (a : List Nat) (m c0 i c : Nat) (t : List Nat) : Prop := EInv 4294967296 a m c0 i c t
def ExtRel (B : Nat) (w : World) (p : Option Addr) (cap : Nat) (a : List Nat) (m c0 : Nat) (v7 v14 : Value) (wr : World) : Prop :=
  ∃ (i c : Nat) (t : List Nat), i ≤ a.length ∧ v14 = .int .i64 (i : Int) ∧ v7 = .int .u64 (c : Int) ∧ EI a m c0 i c t ∧ NatO B wr p cap t ∧ Below B w wr
def ExtPost (B : Nat) (w : World) (a : List Nat) (m c0 : Nat) (e : Ending) (w' : World) : Prop :=
  ∃ p' c' t, e = .returned (.slice p' t.length c') ∧ V32 t = V32 a * m + c0 ∧ t.length ≤ a.length + 1 ∧ (nrm a → 1 ≤ m → nrm t) ∧ NatO B w' p' c' t ∧ Below B w w'


/-- slices.Clone of limbs: nil stays nil, else new memory -/
def ClonePost (w : World) (l : List Nat) (e : Ending) (w' : World) : Prop :=
  ∃ p c, e = .returned (.slice p l.length c) ∧ NatO w.heap.size w' p c l ∧ Below w.heap.size w w'
end Go.Proofs.YtmienemnjikgdaaDoor
end
section
namespace Go.Proofs.YtmienemnjikgdaaDoor
open Go.RowKit NatM

/-- bytes as cells -/
def cells8 (bs : List Nat) : List Value := bs.map fun (b : Nat) => Value.int .u8 (b : Int)
theorem cells8_length (l : List Nat) : (cells8 l).length = l.length := by simp [cells8]
theorem cells8_get {l : List Nat} {j x : Nat} (h : l[j]? = some x) : (cells8 l)[j]? = some (.int .u8 (x : Int)) := by simp [cells8, h]
theorem cells8_set (l : List Nat) (k x : Nat) : cells8 (l.set k x) = (cells8 l).set k (.int .u8 (x : Int)) := by simp [cells8, List.map_set]

def RevRel (w : World) (base g cap : Nat) (xs : List Nat) (v2 v3 : Value) (wr : World) : Prop :=
  ∃ (k : Nat) (zs : List Nat), 2 * k ≤ xs.length ∧ v2 = .int .i64 (k : Int) ∧ v3 = .int .i64 ((xs.length : Int) - 1 - (k : Int)) ∧ RevAt xs zs k ∧ wr.ownsRow base 5 1 (.slice (some ⟨g, 0, none⟩) xs.length cap) xs.length (cells8 zs) ∧ w.grownBy wr (some g)
def RevPost (w : World) (base g cap : Nat) (xs : List Nat) (e : Ending) (w' : World) : Prop :=
  e = .returned (.tuple #[]) ∧ w'.ownsRow base 5 1 (.slice (some ⟨g, 0, none⟩) xs.length cap) xs.length (cells8 xs.reverse) ∧ w.grownBy w' (some g)

theorem info8 : (Tryd.prog.info? 5).map (fun i => (i.zero, i.size, i.bytes)) = some (some (.int .u8 0), 1, 1) := by kernel_rfl
/-- rows of different element types lie in different blocks -/
theorem own_ne {w : World} {b b' : Nat} {e e' : TypeId} {v v' : Value} {n n' : Nat} {xs xs' : List Value} (h : w.ownsRow b e 1 v n xs) (h' : w.ownsRow b' e' 1 v' n' xs') (hne : e ≠ e') : v.ownBlock = none ∨ v.ownBlock ≠ v'.ownBlock := by
  rcases h.2 with ⟨rfl, _⟩ | ⟨g, cap, cur, rfl, _, hh, _⟩
  · exact Or.inl rfl
  · right
    rcases h'.2 with ⟨rfl, _⟩ | ⟨g', cap', cur', rfl, _, hh', _⟩
    · simp [Value.ownBlock]
    · intro hq
      have : g = g' := by simpa [Value.ownBlock] using hq
      subst this
      rw [hh] at hh'
      injection hh' with hh'
      injection hh' with _ ht
      exact hne ht
theorem ownBlock_slice (p : Option Addr) (n c : Nat) : (Value.slice p n c).ownBlock = p.map (·.block) := by cases p <;> rfl

def chars (ds : List Nat) : List Nat := ds.map fun d => 48 + d
theorem chars_snoc (ds : List Nat) (d : Nat) : chars (ds ++ [d]) = chars ds ++ [48 + d] := by simp [chars]
theorem chars_length (ds : List Nat) : (chars ds).length = ds.length := by simp [chars]
theorem cells8_snoc (l : List Nat) (x : Nat) : cells8 (l ++ [x]) = cells8 l ++ [.int .u8 (x : Int)] := by simp [cells8]
/-- the decimal text of a number -/
def textOf (n : Nat) : ByteArray := strOfNums ((decL n).map fun (d : Nat) => ((48 + d : Nat) : Int))

/-- the digits that Text has gathered, the lowest first -/
def DigO (B : Nat) (w : World) (v : Value) (ds : List Nat) : Prop := ∃ pd cd, v = .slice pd ds.length cd ∧ w.ownsRow B 5 1 (.slice pd ds.length cd) ds.length (cells8 (chars ds))
theorem DigO.of {B : Nat} {w : World} {v : Value} {ds : List Nat} (h : w.ownsRow B 5 1 v ds.length (cells8 (chars ds))) : ∃ pd cd, v = .slice pd ds.length cd ∧ w.ownsRow B 5 1 (.slice pd ds.length cd) ds.length (cells8 (chars ds)) := by
  rcases own_shape h with ⟨rfl, h0, _⟩ | ⟨g, cap, rfl, _⟩
  · obtain rfl := List.eq_nil_of_length_eq_zero h0
    exact ⟨none, 0, rfl, h⟩
  · exact ⟨_, _, rfl, h⟩
def TextRel (B : Nat) (w : World) (n : Nat) (p : Option Addr) (c : Nat) (gk : Nat) (v3 v4 : Value) (wr : World) : Prop :=
  ∃ (R : Nat) (ds : List Nat), v3 = .slice p (D32 R).length c ∧ DigO B wr v4 ds ∧ TInv n ds R ∧ NatO B wr p c (D32 R) ∧ Below B w wr ∧ R ≤ gk
def InnerRel (B : Nat) (w : World) (n : Nat) (p : Option Addr) (c R : Nat) (gk : Nat) (v4 v5 v6 : Value) (wr : World) : Prop :=
  ∃ (i chunk : Nat) (ds : List Nat), i ≤ 9 ∧ v6 = .int .i64 (i : Int) ∧ v5 = .int .u32 (chunk : Int) ∧ chunk < 10 ^ (9 - i) ∧ DigO B wr v4 ds ∧ TInv n ds (chunk + 10 ^ (9 - i) * R) ∧ NatO B wr p c (D32 R) ∧ Below B w wr ∧ 9 - i ≤ gk

end Go.Proofs.YtmienemnjikgdaaDoor
end
section
namespace Go.Proofs.YtmienemnjikgdaaDoor.NatM
/-! ### decimal texts -/
def isDig (b : Nat) : Bool := decide (48 ≤ b) && decide (b ≤ 57)
/-- What is wrong with a text of digits: the place, and the error's number; none: nothing. -/
def parseBad (l : List Nat) : Option (Nat × Nat) :=
  if 1200 < l.length then some (0, 4) else if l.length = 0 then some (0, 6) else
    match l.findIdx? (fun b => !isDig b) with
    | some i => some (i, 6)
    | none => if 1 < l.length ∧ l[0]? = some 48 then some (0, 6) else none
def numOf (l : List Nat) : Nat := l.foldl (fun n b => n * 10 + (b - 48)) 0
theorem numOf_take {l : List Nat} {k b : Nat} (h : l[k]? = some b) : numOf (l.take (k + 1)) = numOf (l.take k) * 10 + (b - 48) := by
  unfold numOf
  rw [take_snoc (get_lt h), List.foldl_append, get_eq h]
  rfl
theorem numOf_nil : numOf [] = 0 := rfl
theorem numOf_lt (l : List Nat) (h : ∀ b ∈ l, isDig b = true) : numOf l < 10 ^ l.length := by
  have key : ∀ (l : List Nat) (a : Nat), (∀ b ∈ l, isDig b = true) → l.foldl (fun n b => n * 10 + (b - 48)) a < (a + 1) * 10 ^ l.length := by
    intro l
    induction l with
    | nil => intro a _; simp
    | cons b l ih =>
      intro a hl
      have hb : b - 48 ≤ 9 := by
        have := hl b List.mem_cons_self
        unfold isDig at this
        simp at this
        omega
      have h1 := ih (a * 10 + (b - 48)) (fun c hc => hl c (List.mem_cons_of_mem _ hc))
      rw [List.foldl_cons, List.length_cons, Nat.pow_succ]
      have h2 : (a * 10 + (b - 48) + 1) * 10 ^ l.length ≤ ((a + 1) * 10) * 10 ^ l.length := Nat.mul_le_mul_right _ (by omega)
      have h3 : (a + 1) * 10 * 10 ^ l.length = (a + 1) * (10 ^ l.length * 10) := by rw [Nat.mul_assoc, Nat.mul_comm 10]
      omega
  have := key l 0 h
  unfold numOf
  omega
/-- The digits of the number are the text's, where the text does not begin with 0. -/
theorem numOf_val (l : List Nat) : numOf l = valB 10 ((l.map (· - 48)).reverse) := by
  have key : ∀ (l : List Nat) (a : Nat), l.foldl (fun n b => n * 10 + (b - 48)) a = valB 10 ((l.map (· - 48)).reverse) + 10 ^ l.length * a := by
    intro l
    induction l with
    | nil => intro a; simp [valB]
    | cons b l ih =>
      intro a
      rw [List.foldl_cons, ih, List.map_cons, List.reverse_cons, valB_snoc, List.length_reverse, List.length_map, List.length_cons, Nat.pow_succ]
      rw [Nat.mul_add, Nat.mul_assoc, Nat.mul_comm a 10]
      omega
  have := key l 0
  unfold numOf
  omega
theorem findIdx_none {l : List Nat} {p : Nat → Bool} (h : l.findIdx? p = none) : ∀ b ∈ l, p b = false := by
  intro b hb
  have := List.findIdx?_eq_none_iff.1 h b hb
  simpa using this
theorem dec_read {l : List Nat} (hd : ∀ b ∈ l, isDig b = true) (hl : 0 < l.length) (hz : ¬ (1 < l.length ∧ l[0]? = some 48)) : (decL (numOf l)).map (48 + ·) = l := by
  have hback : ∀ m : List Nat, (∀ b ∈ m, isDig b = true) → (m.map (· - 48)).map (48 + ·) = m := by
    intro m
    induction m with
    | nil => intro _; rfl
    | cons b m ih =>
      intro h
      have hb := h b List.mem_cons_self
      unfold isDig at hb
      simp at hb
      rw [List.map_cons, List.map_cons, ih (fun c hc => h c (List.mem_cons_of_mem _ hc))]
      congr 1
      omega
  have hok : okB 10 ((l.map (· - 48)).reverse) := by
    intro x hx
    rw [List.mem_reverse, List.mem_map] at hx
    obtain ⟨b, hb, rfl⟩ := hx
    have := hd b hb
    unfold isDig at this
    simp at this
    omega
  by_cases h0 : numOf l = 0
  · have hl1 : l.length = 1 := by
      rcases Nat.lt_or_ge 1 l.length with h1 | h1
      · exfalso
        apply hz
        refine ⟨h1, ?_⟩
        rw [numOf_val] at h0
        match l, hl with
        | b :: t, _ =>
          rw [List.map_cons, List.reverse_cons, valB_snoc] at h0
          have hp : 0 < 10 ^ (t.map (· - 48)).reverse.length := Nat.pow_pos (by omega)
          have h2 : b - 48 = 0 := by
            rcases Nat.eq_zero_or_pos (b - 48) with h3 | h3
            · exact h3
            · have := Nat.mul_pos hp h3; omega
          have := hd b List.mem_cons_self
          unfold isDig at this
          simp at this
          have : b = 48 := by omega
          simp [this]
      · omega
    match l, hl1 with
    | [b], _ =>
      have hb := hd b List.mem_cons_self
      unfold isDig at hb
      simp at hb
      have h2 : b - 48 = 0 := by simpa [numOf] using h0
      rw [h0]
      simp [decL]
      omega
  · unfold decL
    rw [if_neg h0]
    have hn : nrm ((l.map (· - 48)).reverse) := by
      intro x hx
      rw [List.getLast?_reverse] at hx
      match l, hl with
      | b :: t, _ =>
        simp at hx
        rintro rfl
        have hb := hd b List.mem_cons_self
        unfold isDig at hb
        simp at hb
        have hb48 : b = 48 := by omega
        subst hb48
        have h1 : ¬ 1 < (48 :: t).length := fun h => hz ⟨h, rfl⟩
        have ht : t = [] := by
          apply List.eq_nil_of_length_eq_zero
          simp at h1
          simpa using h1
        subst ht
        exact h0 rfl
    have hu := digs_unique (B := 10) (by omega) hok hn (numOf_val l).symm
    rw [hu, List.reverse_reverse]
    exact hback l hd
/-- And the other way: the text of a number is read as the number. -/
theorem dec_back (n : Nat) : numOf ((decL n).map (48 + ·)) = n ∧ (∀ b ∈ (decL n).map (48 + ·), isDig b = true) ∧ 0 < ((decL n).map (48 + ·)).length ∧ ¬ (1 < ((decL n).map (48 + ·)).length ∧ ((decL n).map (48 + ·))[0]? = some 48) := by
  by_cases h0 : n = 0
  · subst h0
    refine ⟨by decide, by decide, by decide, by decide⟩
  · have hm : ((decL n).map (48 + ·)).map (· - 48) = decL n := by
      rw [List.map_map]
      have : ((fun x => x - 48) ∘ (fun x => 48 + x)) = (id : Nat → Nat) := by funext x; simp
      rw [this, List.map_id]
    have hd : decL n = (digs 10 n).reverse := by unfold decL; rw [if_neg h0]
    refine ⟨?_, ?_, ?_, ?_⟩
    · rw [numOf_val, hm, hd, List.reverse_reverse]
      exact valB_digs (by omega) n
    · intro b hb
      rw [List.mem_map] at hb
      obtain ⟨d, hdm, rfl⟩ := hb
      rw [hd, List.mem_reverse] at hdm
      have := digs_ok (B := 10) (by omega) n d hdm
      unfold isDig
      simp
      omega
    · rw [List.length_map, hd, List.length_reverse]
      exact List.length_pos_iff.2 (fun e => h0 ((digs_eq_nil (by omega)).1 e))
    · rintro ⟨_, h1⟩
      rw [hd, List.getElem?_map] at h1
      obtain ⟨d, hd1, hd2⟩ := Option.map_eq_some_iff.1 h1
      have hl : (digs 10 n).getLast? = some d := by
        rw [← List.head?_reverse, List.head?_eq_getElem?]
        exact hd1
      exact digs_nrm (by omega) n d hl (by omega)
end Go.Proofs.YtmienemnjikgdaaDoor.NatM
end
section
namespace Go.Proofs.YtmienemnjikgdaaDoor
open Go.RowKit Go.Extern.Stop Go.Stop Go.Extern NatM

/-- a string's bytes as numbers -/
def bsOf (s : ByteArray) : List Nat := s.data.toList.map (·.toNat)
theorem bsOf_length (s : ByteArray) : (bsOf s).length = s.size := by
  unfold bsOf
  rw [List.length_map, Array.length_toList]
  rfl
theorem bsOf_get {s : ByteArray} {k : Nat} (h : k < s.size) : (bsOf s)[k]? = some (s[k]).toNat := by
  unfold bsOf
  rw [List.getElem?_map, List.getElem?_eq_getElem (by simpa using h)]
  rfl
theorem isDig_iff {b : Nat} : isDig b = true ↔ 48 ≤ b ∧ b ≤ 57 := by unfold isDig; simp

def natOp : ByteArray := { data := #[110, 97, 116] }
/-- nothing but an error of this package, with its place and its number -/
def ErrPost (w : World) (A : Nat → Addr) (pl : Int) (k : Nat) (e : Ending) (w' : World) : Prop :=
  ∃ b, e = .returned (.tuple #[.slice none 0 0, (Tree.fault b natOp pl (.leaf (A k))).val]) ∧ (Tree.fault b natOp pl (.leaf (A k))).lies w' ∧ Below w.heap.size w w'
/-- a number and no error -/
def OkPost (w : World) (n : Nat) (e : Ending) (w' : World) : Prop :=
  ∃ p c, e = .returned (.tuple #[.slice p (D32 n).length c, .nilIface]) ∧ NatO w.heap.size w' p c (D32 n) ∧ Below w.heap.size w w'

def ParseRel (w : World) (s : ByteArray) (v5 v44 : Value) (wr : World) : Prop :=
  ∃ (k : Nat) (p : Option Addr) (cap : Nat) (t : List Nat), k ≤ s.size ∧ v44 = .int .i64 (k : Int) ∧ v5 = .slice p t.length cap ∧ V32 t = numOf ((bsOf s).take k) ∧ nrm t ∧ t.length ≤ k ∧ NatO w.heap.size wr p cap t ∧ Below w.heap.size w wr

theorem new_err (pl : Int) (n : Nat) (w : World) (A : Nat → Addr) (hr : Roots w A) (hn : 1 ≤ n ∧ n ≤ 11) :
    Calls Tryd.prog 34 #[.string natOp, .int .i64 pl, .int .i64 (n : Int)] w fun e w' => e = .returned (Tree.fault w.heap.size natOp pl (.leaf (A n))).val ∧ Below w.heap.size w w' ∧ (Tree.fault w.heap.size natOp pl (.leaf (A n))).lies w' := by
  have hk : known (n : Int) = n := by unfold known; rw [if_pos (by omega)]; rfl
  refine (new_any natOp pl n w A hr (by omega)).mono fun e w' ⟨he, hb, _, hl⟩ => ?_
  rw [hk] at he hl
  exact ⟨he, hb, hl⟩

theorem findIdx_some {l : List Nat} {p : Nat → Bool} {i : Nat} (h : l.findIdx? p = some i) : ∃ b, l[i]? = some b ∧ p b = true ∧ ∀ j x, j < i → l[j]? = some x → p x = false := by
  obtain ⟨hi, h1, h2⟩ := List.findIdx?_eq_some_iff_getElem.1 h
  refine ⟨l[i], List.getElem?_eq_getElem hi, h1, fun j x hj hx => ?_⟩
  obtain ⟨hjl, rfl⟩ := List.getElem?_eq_some_iff.1 hx
  simpa using h2 j hj

end Go.Proofs.YtmienemnjikgdaaDoor
end
section
namespace Go.Proofs.YtmienemnjikgdaaDoor.NatM
/-! ### a limb less a limb, with a borrow -/
theorem bit31 {x : Nat} (hx : x < 4294967296) : Nat.testBit x 31 = decide (2147483648 ≤ x) := by
  rw [Nat.testBit_eq_decide_div_mod_eq]
  congr 1
  have : 2 ^ 31 = 2147483648 := by decide
  rw [this]
  apply propext
  omega
theorem div31 {t : Nat} (ht : t < 4294967296) : t / 2147483648 = if Nat.testBit t 31 then 1 else 0 := by
  rw [bit31 ht]
  by_cases h : 2147483648 ≤ t
  · rw [decide_eq_true h, if_pos rfl]; omega
  · rw [decide_eq_false h]; simp; omega
theorem not31 {x : Nat} (hx : x < 4294967296) : Nat.testBit (4294967295 - x) 31 = !Nat.testBit x 31 := by
  have h := Nat.testBit_two_pow_sub_succ (n := 32) hx 31
  have e : 2 ^ 32 - (x + 1) = 4294967295 - x := by omega
  rw [e] at h
  rw [h]
  simp
theorem sub_borrow {x y c d : Nat} (hx : x < 4294967296) (hy : y < 4294967296) (hc : c ≤ 1) (hd : d = (x + 8589934592 - y - c) % 4294967296) :
    (((4294967295 - x) &&& y) ||| ((4294967295 - (x ^^^ y)) &&& d)) / 2147483648 = if x < y + c then 1 else 0 := by
  have hdl : d < 4294967296 := by omega
  have hxy : x ^^^ y < 2 ^ 32 := Nat.xor_lt_two_pow hx hy
  have h1 : (4294967295 - x) &&& y < 2 ^ 32 := Nat.and_lt_two_pow _ hy
  have h2 : (4294967295 - (x ^^^ y)) &&& d < 2 ^ 32 := Nat.and_lt_two_pow _ hdl
  rw [div31 (Nat.or_lt_two_pow h1 h2), Nat.testBit_or, Nat.testBit_and, Nat.testBit_and, not31 hx, not31 hxy, Nat.testBit_xor, bit31 hx, bit31 hy, bit31 hdl]
  by_cases a : 2147483648 ≤ x <;> by_cases b : 2147483648 ≤ y <;> by_cases e : 2147483648 ≤ d <;> by_cases f : x < y + c <;> simp [a, b, e, f] <;> omega
/-- Where a difference stands when k limbs of m have been taken from a. -/
structure DInv (B : Nat) (a m : List Nat) (k c : Nat) (t : List Nat) : Prop where
  ok : okB B t
  len : t.length = a.length
  car : c ≤ 1
  rest : t.drop k = a.drop k
  val : valB B (t.take k) + valB B (m.take k) = valB B (a.take k) + B ^ k * c
theorem DInv.start {B : Nat} {a m : List Nat} (ha : okB B a) : DInv B a m 0 0 a := ⟨ha, rfl, by omega, rfl, by simp [valB]⟩
theorem sub_step {T M A P x y c r q B : Nat} (h1 : T + M = A + P * c) (h2 : r + y + c = x + B * q) : T + P * r + (M + P * y) = A + P * x + P * B * q := by
  have e : P * (r + y + c) = P * (x + B * q) := by rw [h2]
  rw [Nat.mul_add, Nat.mul_add, Nat.mul_add, ← Nat.mul_assoc] at e
  omega
theorem DInv.step {B : Nat} {a m : List Nat} {k c x r q : Nat} {t : List Nat} (h : DInv B a m k c t) (hx : a[k]? = some x) (hr : r < B) (hq : q ≤ 1) (he : r + limbAt m k + c = x + B * q) :
    DInv B a m (k + 1) q (t.set k r) := by
  have hxt : t[k]? = some x := (get_of_drop h.rest).trans hx
  refine ⟨okB_set h.ok hr _, by rw [List.length_set]; exact h.len, hq, by rw [drop_set_succ]; exact drop_succ_of h.rest, ?_⟩
  rw [set_takeq hxt, valB_snoc, List.length_take, Nat.min_eq_left (by have := get_lt hxt; omega), valB_take_limb, valB_takeq B hx, Nat.pow_succ]
  exact sub_step h.val he
/-- While something is left to take away, the number is long enough. -/
theorem DInv.long {B : Nat} (hB : 2 ≤ B) {a m : List Nat} (ha : okB B a) (hmn : nrm m) (hle : valB B m ≤ valB B a) {k c : Nat} {t : List Nat} (h : DInv B a m k c t) (hgo : k < m.length ∨ c ≠ 0) : k < a.length := by
  rcases Nat.lt_or_ge k a.length with h1 | h1
  · exact h1
  · exfalso
    have hv := h.val
    rw [valB_take_all B h1, show t.take k = t by rw [List.take_of_length_le (by rw [h.len]; exact h1)]] at hv
    have h2 := valB_lt (B := B) (by omega) h.ok
    rw [h.len] at h2
    have h3 : B ^ a.length ≤ B ^ k := Nat.pow_le_pow_right (by omega) h1
    rcases Nat.eq_zero_or_pos c with hc | hc
    · have hk : k < m.length := by omega
      have h4 := valB_split B m k (by omega)
      have h5 := valB_pos hB hmn (List.length_pos_iff.1 (by omega))
      have h6 := ge_of_nrm hB hmn (List.length_pos_iff.1 (by omega))
      have h7 : B ^ k ≤ B ^ (m.length - 1) := Nat.pow_le_pow_right (by omega) (by omega)
      have h8 := valB_lt (B := B) (by omega) ha
      omega
    · have h4 := valB_take_le B m k
      have h5 : B ^ k * 1 ≤ B ^ k * c := Nat.mul_le_mul_left _ hc
      omega
theorem DInv.done {B : Nat} {a m : List Nat} {k : Nat} {t : List Nat} (h : DInv B a m k 0 t) (hk : m.length ≤ k) (hka : k ≤ a.length) : valB B t = valB B a - valB B m ∧ valB B m ≤ valB B a := by
  have hv := h.val
  rw [valB_take_all B hk] at hv
  have h1 := valB_split B t k (by rw [h.len]; exact hka)
  have h2 := valB_split B a k hka
  rw [h.rest] at h1
  simp at hv
  omega
end Go.Proofs.YtmienemnjikgdaaDoor.NatM
end
section
namespace Go.Proofs.YtmienemnjikgdaaDoor
open Go.RowKit Go.Extern.Stop Go.Stop Go.Extern NatM

/-- the borrow of a limb less a limb -/
def bor (x y c : Nat) : Nat := if x < y + c then 1 else 0
theorem bor_le (x y c : Nat) : bor x y c ≤ 1 := by unfold bor; split <;> omega
theorem xor_max {x : Nat} (hx : x < 4294967296) : 4294967295 ^^^ x = 4294967295 - x := by
  apply Nat.eq_of_testBit_eq
  intro i
  have h := Nat.testBit_two_pow_sub_succ (n := 32) hx i
  rw [show 2 ^ 32 - (x + 1) = 4294967295 - x by omega] at h
  rw [h, Nat.testBit_xor, show (4294967295 : Nat) = 2 ^ 32 - 1 by decide, Nat.testBit_two_pow_sub_one]
  by_cases hi : i < 32
  · simp [hi]
  · have : Nat.testBit x i = false := Nat.testBit_lt_two_pow (Nat.lt_of_lt_of_le hx (by
      have : 2 ^ 32 ≤ 2 ^ i := Nat.pow_le_pow_right (by omega) (by omega)
      omega))
    simp [hi, this]
theorem not_u32 (x : Nat) (hx : x < 4294967296) : bits .xor .u32 IntKind.u32.max (x : Int) = ((4294967295 - x : Nat) : Int) := by
  have h := u32_xor_nat 4294967295 x (by omega) hx
  rw [xor_max hx] at h
  exact h
theorem ret_u32s {a b a' b' : Int} (h : a = a') (h' : b = b') : Ending.returned (.tuple #[.int .u32 a, .int .u32 b]) = Ending.returned (.tuple #[.int .u32 a', .int .u32 b']) := by rw [h, h']
theorem bor_eq {x y c : Nat} (hx : x < 4294967296) (hy : y < 4294967296) (hc : c ≤ 1) : (x + 8589934592 - y - c) % 4294967296 + y + c = x + 4294967296 * bor x y c := by
  unfold bor
  split <;> omega

def DI (a m : List Nat) (k c : Nat) (t : List Nat) : Prop := DInv 4294967296 a m k c t
def SubRel (w : World) (p : Option Addr) (cap : Nat) (a m : List Nat) (gk : Nat) (v7 v8 : Value) (wr : World) : Prop :=
  ∃ (k c : Nat) (t : List Nat), k ≤ a.length ∧ v7 = .int .u32 (c : Int) ∧ v8 = .int .i64 (k : Int) ∧ DI a m k c t ∧ NatO w.heap.size wr p cap t ∧ Below w.heap.size w wr ∧ a.length - k ≤ gk

end Go.Proofs.YtmienemnjikgdaaDoor
end
section
namespace Go.Proofs.YtmienemnjikgdaaDoor
open Go.RowKit NatM

/-- a slice literal of limbs, just laid -/
theorem NatV.laid {w : World} (l : List Nat) (cs : Array Value) (t : TypeId) (hc : cs.toList = cells32 l) (hl : l.length ≤ 1000) (ok : ok32 l) :
    NatV (w.alloc (.cells cs t)).heap.size (w.alloc (.cells cs t)) (some ⟨w.heap.size, 0, none⟩) l.length l := by
  refine ⟨ok, Nat.le_refl _, by unfold maxLen; omega, (fun h => by cases h), fun _ => ⟨w.heap.size, 0, rfl, by simp, fun j x hx => ?_⟩⟩
  rw [Nat.zero_add, cell_alloc_row, ← Array.getElem?_toList, hc]
  exact cells32_get hx
theorem ok_of {l : List Nat} (h : l.all (fun x => decide (x < 4294967296)) = true) : ok32 l := fun x hx => by simpa using List.all_eq_true.1 h x hx
theorem nrm_of {l : List Nat} (h : (l.getLast? == some 0) = false) : nrm l := fun x hx e => by subst e; rw [hx] at h; simp at h
theorem D32_of {l : List Nat} {n : Nat} (ho : l.all (fun x => decide (x < 4294967296)) = true) (hn : (l.getLast? == some 0) = false) (hv : V32 l = n) : D32 n = l := digs_unique (by omega) (ok_of ho) (nrm_of hn) hv
theorem D10_of {l : List Nat} {n : Nat} (ho : l.all (fun x => decide (x < 10)) = true) (hn : (l.getLast? == some 0) = false) (hv : valB 10 l = n) : digs 10 n = l := digs_unique (by omega) (fun x hx => by simpa using List.all_eq_true.1 ho x hx) (nrm_of hn) hv

def bigText : ByteArray := { data := #[52, 50, 57, 52, 57, 54, 55, 50, 57, 54] }
theorem D32_big : D32 4294967296 = [0, 1] := D32_of (by decide) (by decide) (by decide)
theorem D32_15 : D32 15 = [15] := D32_of (by decide) (by decide) (by decide)
theorem text_big : textOf 4294967296 = bigText := by
  unfold textOf decL
  rw [if_neg (by decide), D10_of (l := [6, 9, 2, 7, 6, 9, 4, 9, 2, 4]) (by decide) (by decide) (by decide)]
  rfl
theorem parse_big_none : parseBad (bsOf bigText) = none := by decide +kernel
theorem list_big : (bigText.toList == [52, 50, 57, 52, 57, 54, 55, 50, 57, 54]) = true := by decide +kernel
theorem num_big : numOf (bsOf bigText) = 4294967296 := by decide +kernel


/-- long: is one of them longer than 400 limbs? -/
def longB (L : List Nt) : Bool := L.any fun x => decide (400 < x.2.2.length)
end Go.Proofs.YtmienemnjikgdaaDoor
end
section
namespace Go.Proofs.YtmienemnjikgdaaDoor.NatM
/-! ### binary digits -/
theorem len2_lt (n : Nat) : n < 2 ^ (digs 2 n).length := by
  have := valB_lt (B := 2) (by omega) (digs_ok (by omega) n)
  rwa [valB_digs (by omega)] at this
theorem len2_ge {n : Nat} (h : 0 < n) : 2 ^ ((digs 2 n).length - 1) ≤ n := by
  have hne : digs 2 n ≠ [] := fun e => by have := (digs_eq_nil (B := 2) (by omega)).1 e; omega
  have := ge_of_nrm (B := 2) (by omega) (digs_nrm (by omega) n) hne
  rwa [valB_digs (by omega)] at this
theorem len2_unique {n k : Nat} (h1 : 2 ^ (k - 1) ≤ n) (h2 : n < 2 ^ k) : (digs 2 n).length = k := by
  have h0 : 0 < n := Nat.lt_of_lt_of_le (Nat.pow_pos (by omega)) h1
  have a := len2_lt n
  have b := len2_ge h0
  rcases Nat.lt_trichotomy (digs 2 n).length k with h | h | h
  · have : 2 ^ (digs 2 n).length ≤ 2 ^ (k - 1) := Nat.pow_le_pow_right (by omega) (by omega)
    omega
  · exact h
  · have : 2 ^ k ≤ 2 ^ ((digs 2 n).length - 1) := Nat.pow_le_pow_right (by omega) (by omega)
    omega
theorem len2_pow (k : Nat) : (digs 2 (2 ^ k)).length = k + 1 := by
  apply len2_unique
  · exact Nat.le_refl _
  · rw [Nat.pow_succ]; have := Nat.pow_pos (n := k) (by omega : 0 < 2); omega
theorem len2_succ {x : Nat} (h : 0 < x) : (digs 2 x).length = 1 + (digs 2 (x / 2)).length := by
  rw [digs_pos (by omega) h, List.length_cons]; omega
/-- The bits of a number are those of its last limb, and b more for each limb below. -/
theorem len2_top (b : Nat) {l : List Nat} (ho : okB (2 ^ b) l) (hn : nrm l) {x : Nat} (hx : l[l.length - 1]? = some x) : (digs 2 (valB (2 ^ b) l)).length = b * (l.length - 1) + (digs 2 x).length := by
  have hl := get_lt hx
  have hx0 : 0 < x := by
    have := hn x (by rw [List.getLast?_eq_getElem?]; exact hx)
    omega
  have h1 := valB_takeq (2 ^ b) hx
  rw [show l.length - 1 + 1 = l.length by omega, List.take_length] at h1
  have h2 := valB_lt (B := 2 ^ b) (Nat.pow_pos (by omega)) (okB_take ho (l.length - 1))
  rw [List.length_take, Nat.min_eq_left (by omega)] at h2
  have h3 := len2_lt x
  have h4 := len2_ge hx0
  have hlen : 0 < (digs 2 x).length := List.length_pos_iff.2 (fun e => by have := (digs_eq_nil (B := 2) (by omega)).1 e; omega)
  have e : (2 ^ b) ^ (l.length - 1) = 2 ^ (b * (l.length - 1)) := (Nat.pow_mul 2 b _).symm
  rw [e] at h1 h2
  apply len2_unique
  · rw [show b * (l.length - 1) + (digs 2 x).length - 1 = b * (l.length - 1) + ((digs 2 x).length - 1) by omega, Nat.pow_add, h1]
    have := Nat.mul_le_mul_left (2 ^ (b * (l.length - 1))) h4
    omega
  · rw [Nat.pow_add, h1]
    have : 2 ^ (b * (l.length - 1)) * (x + 1) ≤ 2 ^ (b * (l.length - 1)) * 2 ^ (digs 2 x).length := Nat.mul_le_mul_left _ h3
    rw [Nat.mul_add] at this
    omega
end Go.Proofs.YtmienemnjikgdaaDoor.NatM
end
section
namespace Go.Proofs.YtmienemnjikgdaaDoor
open Go.RowKit Go.Extern.Stop Go.Stop Go.Extern NatM

theorem NatO.laid (w : World) (l : List Nat) (cs : Array Value) (n : Nat) (hn : n = l.length) (hc : cs.toList = cells32 l) (hl : l.length ≤ 1000) (ok : ok32 l) : NatO w.heap.size (w.alloc (.cells cs 144)) (some ⟨w.heap.size, 0, none⟩) n l := by
  have hs : cs.size = l.length := by rw [← Array.length_toList, hc, cells32_length]
  subst hn
  refine ⟨⟨by rw [cells32_length, Nat.mul_one], Or.inr ⟨w.heap.size, l.length, cs, rfl, Nat.le_refl _, heap_newN _ _, Nat.le_refl _, by unfold maxLen; omega, by rw [hs, Nat.mul_one], ?_⟩⟩, ok⟩
  rw [hc, Nat.mul_one, List.take_of_length_le (by rw [cells32_length]; exact Nat.le_refl _)]

/-- quotient, rest and no error -/
def OverPost (w : World) (n d : Nat) (e : Ending) (w' : World) : Prop :=
  ∃ p c, e = .returned (.tuple #[.slice p (D32 (n / d)).length c, .int .u32 ((n % d : Nat) : Int), .nilIface]) ∧ NatO w.heap.size w' p c (D32 (n / d)) ∧ Below w.heap.size w w'

/-- nothing, no rest, and an error -/
def OverErr (w : World) (A : Nat → Addr) (e : Ending) (w' : World) : Prop :=
  ∃ b, e = .returned (.tuple #[.slice none 0 0, .int .u32 0, (Tree.fault b natOp 0 (.leaf (A 3))).val]) ∧ (Tree.fault b natOp 0 (.leaf (A 3))).lies w' ∧ Below w.heap.size w w'



def PowRel (w : World) (k : Nat) (n : Nat) (v6 v15 : Value) (wr : World) : Prop :=
  ∃ (i : Nat) (p : Option Addr) (c : Nat) (t : List Nat), i ≤ n ∧ v15 = .int .i64 (i : Int) ∧ v6 = .slice p t.length c ∧ V32 t = k ^ i ∧ t.length ≤ i + 1 ∧ NatO w.heap.size wr p c t ∧ Below w.heap.size w wr
theorem D32_1 : D32 1 = [1] := D32_of (by decide) (by decide) (by decide)

/-- the number of binary digits -/
def bits2 (n : Nat) : Nat := (digs 2 n).length
end Go.Proofs.YtmienemnjikgdaaDoor
end
section
namespace Go.Proofs.YtmienemnjikgdaaDoor
open Go.RowKit NatM

theorem half_len {l : List Nat} (h : ok32 l) : (D16 (V32 l)).length ≤ 2 * l.length := by
  have e : V16 (half l) = V32 l := half_val l
  have := D16_le (half_ok h)
  rw [e, half_length] at this
  exact this
theorem digs_le_iff {B : Nat} (hB : 2 ≤ B) (n k : Nat) : (digs B n).length ≤ k ↔ n < B ^ k := by
  constructor
  · intro h
    have h1 := valB_lt (B := B) (by omega) (digs_ok hB n)
    rw [valB_digs hB] at h1
    exact Nat.lt_of_lt_of_le h1 (Nat.pow_le_pow_right (by omega) h)
  · exact digs_length_le hB


/-- is the number less than 2^64? -/
def fitsB (n : Nat) : Bool := decide (n < 18446744073709551616)

def FromRel (B : Nat) (w : World) (n : Nat) (v0 v3 : Value) (wr : World) : Prop :=
  ∃ (x : Nat) (t : List Nat) (p : Option Addr) (cap : Nat), v0 = .int .u64 (x : Int) ∧ v3 = .slice p t.length cap ∧ V16 t + 65536 ^ t.length * x = n ∧ okB 65536 t ∧ NatO B wr p cap t ∧ Below B w wr ∧ t.length ≤ 4
end Go.Proofs.YtmienemnjikgdaaDoor
end
section
namespace Go.Proofs.YtmienemnjikgdaaDoor
open Go.RowKit NatM

theorem lt_of_drop16 {a b : List Nat} {i x y : Nat} (ha : okB 65536 a) (hx : a[i]? = some x) (hy : b[i]? = some y) (hd : a.drop (i + 1) = b.drop (i + 1)) (hlt : x < y) : V16 a < V16 b := lt_atq (by omega) ha hx hy hd hlt
theorem cmp_len16 {m n : Nat} (h : (D16 m).length < (D16 n).length) : m < n := digs_length_lt (by omega) h


/-- modulo 2^64 -/
def lowN (n : Nat) : Nat := n % 18446744073709551616
theorem low16 {n : Nat} : V16 ((D16 n).take 4) = lowN n := by
  have hv : V16 (D16 n) = n := V16_D16 n
  have h1 := valB_lt (B := 65536) (by omega) (okB_take (D16_ok n) 4)
  rcases Nat.lt_or_ge (D16 n).length 4 with h | h
  · rw [List.take_of_length_le (by omega)] at h1 ⊢
    have h2 : 65536 ^ (D16 n).length ≤ 65536 ^ 4 := Nat.pow_le_pow_right (by omega) (by omega)
    rw [show 65536 ^ 4 = 18446744073709551616 by decide] at h2
    change V16 (D16 n) < _ at h1
    rw [hv] at h1 ⊢
    unfold lowN
    omega
  · have hs := valB_split 65536 (D16 n) 4 h
    rw [List.length_take, Nat.min_eq_left h, show 65536 ^ 4 = 18446744073709551616 by decide] at h1
    rw [show 65536 ^ 4 = 18446744073709551616 by decide] at hs
    change V16 (D16 n) = V16 ((D16 n).take 4) + _ at hs
    change V16 ((D16 n).take 4) < _ at h1
    rw [hv] at hs
    unfold lowN
    omega
/-- x, read so far from the top digit down to place j of the lowest four -/
structure LowInv (n j x : Nat) : Prop where
  le : j ≤ 4
  val : x = V16 (((D16 n).take 4).drop j)
theorem LowInv.lt {n j x : Nat} (h : LowInv n j x) : x < 65536 ^ (4 - j) := by
  have h1 := valB_lt (B := 65536) (by omega) (okB_drop (okB_take (D16_ok n) 4) j)
  rw [h.val]
  refine Nat.lt_of_lt_of_le h1 (Nat.pow_le_pow_right (by omega) ?_)
  rw [List.length_drop, List.length_take]; omega
theorem LowInv.start (n : Nat) : LowInv n 4 0 := ⟨Nat.le_refl _, by rw [List.drop_of_length_le (by rw [List.length_take]; omega)]; rfl⟩
theorem LowInv.step {n j x y : Nat} (h : LowInv n (j + 1) x) (hy : (D16 n)[j]? = some y) : LowInv n j (x * 65536 + y) := by
  have hj := h.le
  refine ⟨by omega, ?_⟩
  have hy' : ((D16 n).take 4)[j]? = some y := by rw [List.getElem?_take, if_pos (by omega)]; exact hy
  have := valB_dropq 65536 hy'
  show _ = valB 65536 _
  rw [this, h.val]
  show V16 _ * 65536 + y = y + 65536 * V16 _
  omega
theorem LowInv.over {n j x : Nat} (h : LowInv n (j + 1) x) (hj : (D16 n).length ≤ j) : LowInv n j (x * 65536) := by
  have hle := h.le
  have e : x = 0 := by rw [h.val, List.drop_of_length_le (by rw [List.length_take]; omega)]; rfl
  refine ⟨by omega, ?_⟩
  rw [List.drop_of_length_le (by rw [List.length_take]; omega), e]; rfl
theorem LowInv.done {n x : Nat} (h : LowInv n 0 x) : x = lowN n := by rw [h.val, List.drop_zero, low16]

def LowRel (n : Nat) (w2 : World) (v4 v5 : Value) (wr : World) : Prop :=
  ∃ (j x : Nat), v5 = .int .i64 ((j : Int) - 1) ∧ v4 = .int .u64 (x : Int) ∧ LowInv n j x ∧ w2 = wr
end Go.Proofs.YtmienemnjikgdaaDoor
end
section
namespace Go.Proofs.YtmienemnjikgdaaDoor
open Go.RowKit NatM

/-- two lists of digits, added so far up to place i -/
structure SInv (a b : List Nat) (i c : Nat) (out : List Nat) : Prop where
  len : out.length = i
  ok : okB 65536 out
  car : c ≤ 1
  val : V16 out + 65536 ^ i * c = V16 (a.take i) + V16 (b.take i)
  bnd : i ≤ max a.length b.length + 1
theorem SInv.start (a b : List Nat) : SInv a b 0 0 [] := ⟨rfl, okB_nil _, by omega, by simp [V16, valB], by omega⟩
theorem SInv.stop {a b : List Nat} {i c : Nat} {out : List Nat} (ha : okB 65536 a) (hb : okB 65536 b) (h : SInv a b i c out) (hi : max a.length b.length < i) : c = 0 := by
  have hv := h.val
  rw [List.take_of_length_le (by omega), List.take_of_length_le (by omega)] at hv
  have h1 := valB_lt (B := 65536) (by omega) ha
  have h2 := valB_lt (B := 65536) (by omega) hb
  have h3 : 65536 ^ a.length ≤ 65536 ^ (i - 1) := Nat.pow_le_pow_right (by omega) (by omega)
  have h4 : 65536 ^ b.length ≤ 65536 ^ (i - 1) := Nat.pow_le_pow_right (by omega) (by omega)
  have h5 : 65536 ^ i = 65536 * 65536 ^ (i - 1) := by rw [Nat.mul_comm, ← Nat.pow_succ]; congr 1; omega
  rcases Nat.eq_zero_or_pos c with h0 | h0
  · exact h0
  · exfalso
    have h6 : 65536 ^ i * 1 ≤ 65536 ^ i * c := Nat.mul_le_mul_left _ h0
    change V16 a < _ at h1
    change V16 b < _ at h2
    omega
theorem SInv.step {a b : List Nat} {i c : Nat} {out : List Nat} (ha : okB 65536 a) (hb : okB 65536 b) (h : SInv a b i c out) (hgo : i < a.length ∨ i < b.length ∨ 0 < c) :
    SInv a b (i + 1) ((c + limbAt a i + limbAt b i) / 65536) (out ++ [(c + limbAt a i + limbAt b i) % 65536]) := by
  have hv := h.val
  have hl := h.len
  have hc := h.car
  have hst := h.stop ha hb
  have hx := limb_lt (B := 65536) (by omega) ha i
  have hy := limb_lt (B := 65536) (by omega) hb i
  refine ⟨by rw [List.length_append, List.length_singleton, hl], okB_snoc h.ok (by omega), by omega, ?_, ?_⟩
  · show valB 65536 _ + _ = valB 65536 _ + valB 65536 _
    rw [valB_snoc, valB_take_limb, valB_take_limb, hl, Nat.pow_succ, Nat.mul_assoc, Nat.add_assoc, ← Nat.mul_add, Nat.mod_add_div, Nat.mul_add, Nat.mul_add]
    change V16 out + _ = (V16 _ + _) + (V16 _ + _)
    omega
  · have hb := h.bnd
    rcases Nat.lt_or_ge (max a.length b.length) i with h1 | h1
    · have := hst h1
      omega
    · omega
theorem SInv.done {a b : List Nat} {i : Nat} {out : List Nat} (h : SInv a b i 0 out) (ha : a.length ≤ i) (hb : b.length ≤ i) : V16 out = V16 a + V16 b := by
  have hv := h.val
  rw [List.take_of_length_le ha, List.take_of_length_le hb] at hv
  omega
theorem ok16_32 {l : List Nat} (h : okB 65536 l) : ok32 l := fun x hx => Nat.lt_of_lt_of_le (h x hx) (by omega)

def AddRel (B : Nat) (w : World) (a b : List Nat) (v7 v8 v9 : Value) (wr : World) : Prop :=
  ∃ (i c : Nat) (t : List Nat) (p : Option Addr) (cap : Nat), v7 = .slice p t.length cap ∧ v8 = .int .u32 (c : Int) ∧ v9 = .int .i64 (i : Int) ∧ SInv a b i c t ∧ NatO B wr p cap t ∧ Below B w wr


end Go.Proofs.YtmienemnjikgdaaDoor
end
section
namespace Go.Proofs.YtmienemnjikgdaaDoor
open Go.RowKit NatM

def SumRefRel (w : World) (L : List Nt) (v3 v4 : Value) (wr : World) : Prop :=
  ∃ (k : Nat) (p : Option Addr) (cap : Nat), k ≤ L.length ∧ v4 = .int .i64 (k : Int) ∧ v3 = .slice p (D32 (sumV (L.take k))).length cap ∧ NatO w.heap.size wr p cap (D32 (sumV (L.take k))) ∧ Below w.heap.size w wr
end Go.Proofs.YtmienemnjikgdaaDoor
end
section
namespace Go.Proofs.YtmienemnjikgdaaDoor
open Go.RowKit Go.Extern.Stop Go.Stop Go.Extern

theorem Root_any (n : Int) (w : World) (A : Nat → Addr) (hr : Roots w A) :
    Calls Tryd.prog 40 #[.int .i64 n] w fun e w' => e = .returned (.iface 150 (.pointer (some (A (known n))))) ∧ w = w' := by
  have r0 : w.cell? ⟨11, 0, none⟩ = some (.iface 150 (.pointer (some (A 0)))) := hr.var 0 (by decide)
  have r1 : w.cell? ⟨0, 0, none⟩ = some (.iface 150 (.pointer (some (A 1)))) := hr.var 1 (by decide)
  have r2 : w.cell? ⟨1, 0, none⟩ = some (.iface 150 (.pointer (some (A 2)))) := hr.var 2 (by decide)
  have r3 : w.cell? ⟨2, 0, none⟩ = some (.iface 150 (.pointer (some (A 3)))) := hr.var 3 (by decide)
  have r4 : w.cell? ⟨3, 0, none⟩ = some (.iface 150 (.pointer (some (A 4)))) := hr.var 4 (by decide)
  have r5 : w.cell? ⟨4, 0, none⟩ = some (.iface 150 (.pointer (some (A 5)))) := hr.var 5 (by decide)
  have r6 : w.cell? ⟨5, 0, none⟩ = some (.iface 150 (.pointer (some (A 6)))) := hr.var 6 (by decide)
  have r7 : w.cell? ⟨6, 0, none⟩ = some (.iface 150 (.pointer (some (A 7)))) := hr.var 7 (by decide)
  have r8 : w.cell? ⟨7, 0, none⟩ = some (.iface 150 (.pointer (some (A 8)))) := hr.var 8 (by decide)
  have r9 : w.cell? ⟨8, 0, none⟩ = some (.iface 150 (.pointer (some (A 9)))) := hr.var 9 (by decide)
  have r10 : w.cell? ⟨9, 0, none⟩ = some (.iface 150 (.pointer (some (A 10)))) := hr.var 10 (by decide)
  have r11 : w.cell? ⟨10, 0, none⟩ = some (.iface 150 (.pointer (some (A 11)))) := hr.var 11 (by decide)
  clear hr
  rcases (by omega : n = 1 ∨ n = 2 ∨ n = 3 ∨ n = 4 ∨ n = 5 ∨ n = 6 ∨ n = 7 ∨ n = 8 ∨ n = 9 ∨ n = 10 ∨ n = 11 ∨ n < 1 ∨ 11 < n) with rfl | rfl | rfl | rfl | rfl | rfl | rfl | rfl | rfl | rfl | rfl | h | h
  all_goals
    go_enter Tryd.func40, Tryd.ntmps40
    go_wp2
    go_ret
  iterate 11 exact ⟨rfl, rfl⟩
  · exact ⟨by rw [show known n = 0 by unfold known; rw [if_neg (by omega)]]; rfl, rfl⟩
  · exact ⟨by rw [show known n = 0 by unfold known; rw [if_neg (by omega)]]; rfl, rfl⟩

/-- errors.As where a Fault is found. -/
theorem errorsAs_hit (t : Tree) (b : Nat) (w : World) (g : Nat) (ht : t.first = some b) (hl : t.lies w) (hs : Slot w g) (hT : TypeVar w) :
    Calls Tryd.prog 41 #[t.val, .iface 80 (.pointer (some ⟨g, 0, none⟩))] w fun e w' => e = .returned (.bool true) ∧ Below g w w' ∧ w'.cell? ⟨g, 0, none⟩ = some (.pointer (some ⟨b, 0, none⟩)) := by
  refine (errorsAs t w g hl hs hT).mono ?_
  rintro e w' (⟨h1, _⟩ | ⟨b', h1, h2, h3, h4, _⟩)
  · rw [ht] at h1; cases h1
  · obtain rfl := Option.some.inj (ht.symm.trans h1)
    exact ⟨h2, h3, h4⟩

/-- Faults one within another, and then an errorString. -/
def chainT : List (Nat × ByteArray × Int) → Addr → Tree
  | [], a => .leaf a
  | (b, op, pl) :: r, a => .fault b op pl (chainT r a)
theorem chain_hits (a : Addr) : ∀ bs : List (Nat × ByteArray × Int), (chainT bs a).hits 150 a = true
  | [] => by simp [chainT, Tree.hits]
  | (b, op, pl) :: r => by
    have ih := chain_hits a r
    simp only [chainT, Tree.hits, ih, Bool.or_true]
theorem chain_held (a : Addr) (bs : List (Nat × ByteArray × Int)) : (chainT bs a).isNil = false := by cases bs <;> rfl

/-- What an Err says of packages and places: two slices that read the list. -/
structure WantV (w : World) (po pa : Option Addr) (co ca : Nat) (L : List (ByteArray × Int)) : Prop where
  ops : L ≠ [] → ∃ b off, po = some ⟨b, off, none⟩ ∧ b < w.heap.size ∧ ∀ (j : Nat) (x : ByteArray × Int), L[j]? = some x → w.cell? ⟨b, off + j, none⟩ = some (.string x.1)
  ats : L ≠ [] → ∃ b off, pa = some ⟨b, off, none⟩ ∧ b < w.heap.size ∧ ∀ (j : Nat) (x : ByteArray × Int), L[j]? = some x → w.cell? ⟨b, off + j, none⟩ = some (.int .i64 x.2)
  leo : L.length ≤ co
  lea : L.length ≤ ca
  capo : co ≤ maxLen
  capa : ca ≤ maxLen
theorem WantV.below {w w' : World} {po pa : Option Addr} {co ca : Nat} {L : List (ByteArray × Int)} (hb : Below w.heap.size w w') (h : WantV w po pa co ca L) : WantV w' po pa co ca L :=
  ⟨fun hn => by
    obtain ⟨b, off, hp, hlt, hc⟩ := h.ops hn
    exact ⟨b, off, hp, Nat.lt_of_lt_of_le hlt hb.size, fun j x hx => (hb.cell (p := ⟨b, off + j, none⟩) hlt).trans (hc j x hx)⟩, fun hn => by
    obtain ⟨b, off, hp, hlt, hc⟩ := h.ats hn
    exact ⟨b, off, hp, Nat.lt_of_lt_of_le hlt hb.size, fun j x hx => (hb.cell (p := ⟨b, off + j, none⟩) hlt).trans (hc j x hx)⟩, h.leo, h.lea, h.capo, h.capa⟩

theorem cell_alloc_at (w : World) (cs : Array Value) (t : TypeId) (n j : Nat) (hn : w.heap.size = n) : (w.alloc (.cells cs t)).cell? ⟨n, j, none⟩ = cs[j]? := by
  subst hn
  exact cell_of_row _ _ _ cs t (0, 0) (heap_alloc_new w _)

def RawNewPost (w : World) (op : ByteArray) (pl n : Int) (e : Ending) (w' : World) : Prop :=
  ∃ po pa, e = .returned (.agg #[.int .i64 n, .slice po 1 1, .slice pa 1 1]) ∧ WantV w' po pa 1 1 [(op, pl)] ∧ Below w.heap.size w w'
theorem raw_new (op : ByteArray) (pl n : Int) (w : World) :
    Calls Tryd.prog 36 #[.string op, .int .i64 pl, .int .i64 n] w (RawNewPost w op pl n) := by
  go_enter Tryd.func36, Tryd.ntmps36
  go_wp2_with fail
  refine bodyPost_ret (v := .agg #[.int .i64 n, .slice (some ⟨w.heap.size + 1, 0, none⟩) 1 1, .slice (some ⟨w.heap.size + 1 + 1, 0, none⟩) 1 1]) (by simp [results, Tryd.results36, go_sem]) rfl ⟨_, _, rfl, ⟨fun _ => ⟨_, _, rfl, by simp, fun j x hx => ?_⟩, fun _ => ⟨_, _, rfl, by simp, fun j x hx => ?_⟩, Nat.le_refl _, Nat.le_refl _, by decide, by decide⟩, ?_⟩
  · match j, hx with
    | 0, hx =>
      simp at hx
      subst hx
      show World.cell? _ ⟨w.heap.size + 1, 0, none⟩ = _
      rw [World.cell?_alloc_lt _ _ ⟨w.heap.size + 1, 0, none⟩ (by simp), cell_alloc_at _ _ _ _ _ (by simp)]
      rfl
  · match j, hx with
    | 0, hx =>
      simp at hx
      subst hx
      show World.cell? _ ⟨w.heap.size + 1 + 1, 0, none⟩ = _
      rw [cell_alloc_at _ _ _ _ _ (by simp)]
      rfl
  · exact (((Below.refl _ _).alloc (Nat.le_refl _) _).alloc (by simp) _).alloc (by simp; omega) _

def TruePost (w : World) (e : Ending) (w' : World) : Prop := e = .returned (.bool true) ∧ Below w.heap.size w w'

theorem Is_none (po pa : Option Addr) (no na co ca : Nat) (w : World) :
    Calls Tryd.prog 14 #[.nilIface, .agg #[.int .i64 0, .slice po no co, .slice pa na ca]] w (TruePost w) := by
  go_enter Tryd.func14, Tryd.ntmps14
  go_wp2_with fail
  go_ret
  exact ⟨rfl, (Below.refl _ _).alloc (Nat.le_refl _) _⟩

theorem chain_lies_drop {w : World} (a : Addr) : ∀ (j : Nat) {bs : List (Nat × ByteArray × Int)}, (chainT bs a).lies w → j ≤ bs.length → (chainT (bs.drop j) a).lies w
  | 0, _, h, _ => h
  | j + 1, (b, op, pl) :: r, h, hj => by
    have h' : (Tree.fault b op pl (chainT r a)).lies w := h
    exact chain_lies_drop a j (bs := r) h'.2.1 (by simpa using hj)
  | j + 1, [], _, hj => by simp at hj

def ChainRel (w wb : World) (bs : List (Nat × ByteArray × Int)) (a : Addr) (gk : Nat) (v0 v5 : Value) (wr : World) : Prop :=
  ∃ j : Nat, j ≤ bs.length ∧ v0 = (chainT (bs.drop j) a).val ∧ v5 = .int .i64 (j : Int) ∧ Below wb.heap.size wb wr ∧ Below w.heap.size w wr ∧ bs.length - j ≤ gk

set_option maxRecDepth 100000 in
set_option maxHeartbeats 8000000 in
theorem Is_chain (bs : List (Nat × ByteArray × Int)) (k : Nat) (hk : 1 ≤ k ∧ k ≤ 11) (po pa : Option Addr) (n ko ka : Nat) (w : World) (A : Nat → Addr) (hr : Roots w A) (hT : TypeVar w) (hl : (chainT bs (A k)).lies w) (hw : WantV w po pa ko ka (bs.map Prod.snd)) (hn : n = bs.length) :
    Calls Tryd.prog 14 #[(chainT bs (A k)).val, .agg #[.int .i64 (k : Int), .slice po n ko, .slice pa n ka]] w (TruePost w) := by
  subst hn
  have hkn : known (k : Int) = k := by unfold known; rw [if_pos (by omega)]; rfl
  have hn1 := eql_isNil (chainT bs (A k))
  have hn2 := guard_isNil (chainT bs (A k))
  rw [chain_held] at hn1
  have hleo : bs.length ≤ ko := by have := hw.leo; rwa [List.length_map] at this
  have hlea : bs.length ≤ ka := by have := hw.lea; rwa [List.length_map] at this
  have hcapo := hw.capo
  have hcapa := hw.capa
  unfold maxLen at hcapo hcapa
  have hB1 : Below w.heap.size w (w.alloc (.cells #[.int .i64 (k : Int), .slice po bs.length ko, .slice pa bs.length ka] 33)) := (Below.refl _ _).alloc (Nat.le_refl _) _
  have hk0 : ((k : Int) == 0) = false := by rw [beq_eq_false_iff_ne]; omega
  have HH := Lib.hid (And.intro hr (And.intro hT (And.intro hl (And.intro hw hkn))))
  have HB1 := Lib.hid hB1
  clear hr hT hl hw hkn hB1
  go_enter Tryd.func14, Tryd.ntmps14
  go_wp2_with fail
  refine (Root_any (k : Int) _ A (HH.out.1.below HB1.out)).mono ?_
  rintro e w' ⟨rfl, rfl⟩
  rw [HH.out.2.2.2.2]
  go_wp2_with fail
  refine (errorsIs (chainT bs (A k)) _ 150 (A k) (Tree.lies_below HB1.out (t := chainT bs (A k)) HH.out.2.2.1) ((HH.out.1.below HB1.out).there k hk.2) (Or.inl rfl)).mono ?_
  rintro e w2 ⟨rfl, hb2⟩
  rw [chain_hits]
  obtain ⟨wb, hwb⟩ : ∃ wb, w.alloc (.cells #[.int .i64 (k : Int), .slice po bs.length ko, .slice pa bs.length ka] 33) = wb := ⟨_, rfl⟩
  have hbs : wb.heap.size = w.heap.size + 1 := by rw [← hwb]; simp
  have hc0 : wb.cell? ⟨w.heap.size, 0, none⟩ = some (.int .i64 (k : Int)) := by rw [← hwb]; simp
  have hc1 : wb.cell? ⟨w.heap.size, 1, none⟩ = some (.slice po bs.length ko) := by rw [← hwb]; simp
  have hc2 : wb.cell? ⟨w.heap.size, 2, none⟩ = some (.slice pa bs.length ka) := by rw [← hwb]; simp
  have HC := Lib.hid (And.intro hc0 (And.intro hc1 (And.intro hc2 hbs)))
  rw [hwb] at HB1 hb2
  have HW2 := Lib.hid (And.intro hb2 (HB1.out.trans (hb2.mono (by rw [hbs]; omega))))
  clear hc0 hc1 hc2 hbs hwb hb2 hn1 hn2
  go_wp2_with fail
  go_loopg [0, 5] bs.length (fun gk v0 v5 wr => ChainRel w wb bs (A k) gk v0 v5 wr)
  case atStart => exact ⟨0, Nat.zero_le _, rfl, rfl, HW2.out.1, HW2.out.2, by omega⟩
  case round =>
    obtain ⟨j, hj, rfl, rfl, hbb, hbw, hgk⟩ := hrel
    have hgB : w.heap.size < wr.heap.size := by have := hbb.size; have := HC.out.2.2.2; omega
    have hgb1 : w.heap.size < wb.heap.size := by have := HC.out.2.2.2; omega
    have hr1 : wr.cell? ⟨w.heap.size, 1, none⟩ = some (.slice po bs.length ko) := (hbb.cell (p := ⟨w.heap.size, 1, none⟩) hgb1).trans HC.out.2.1
    have HBB := Lib.hid (And.intro hbb hbw)
    by_cases hlt : j < bs.length
    · obtain ⟨x, hx⟩ : ∃ x, bs[j]? = some x := ⟨_, List.getElem?_eq_getElem hlt⟩
      obtain ⟨b, op, pl⟩ := x
      have hdr : bs.drop j = (b, op, pl) :: bs.drop (j + 1) := by
        obtain ⟨h1, h2⟩ := List.getElem?_eq_some_iff.1 hx
        rw [List.drop_eq_getElem_cons h1, h2]
      have hlj := chain_lies_drop (A k) j (Tree.lies_below hbw (t := chainT bs (A k)) HH.out.2.2.1) (Nat.le_of_lt hlt)
      rw [hdr] at hlj ⊢
      have hlj : (Tree.fault b op pl (chainT (bs.drop (j + 1)) (A k))).lies wr := hlj
      have hv : (chainT ((b, op, pl) :: bs.drop (j + 1)) (A k)).val = .iface 78 (.pointer (some ⟨b, 0, none⟩)) := rfl
      rw [hv]
      obtain ⟨rest, hrest⟩ : ∃ rest, chainT (bs.drop (j + 1)) (A k) = rest := ⟨_, rfl⟩
      rw [hrest] at hlj
      have hbl : b < wr.heap.size := heap_lt hlj.1
      have c0 : wr.cell? ⟨b, 0, none⟩ = some (.string op) := by simp [World.cell?, hlj.1]
      have c1 : wr.cell? ⟨b, 1, none⟩ = some (.int .i64 pl) := by simp [World.cell?, hlj.1]
      have c2 : wr.cell? ⟨b, 2, none⟩ = some rest.val := by simp [World.cell?, hlj.1]
      have hmx : (bs.map Prod.snd)[j]? = some (op, pl) := by rw [List.getElem?_map, hx]; rfl
      have hne : bs.map Prod.snd ≠ [] := by intro e; rw [e] at hmx; simp at hmx
      have hWr := HH.out.2.2.2.1.below hbw
      obtain ⟨bo, oo, rfl, hbo, hco⟩ := hWr.ops hne
      obtain ⟨ba, oa, rfl, hba, hca⟩ := hWr.ats hne
      have co := hco j _ hmx
      have ca := hca j _ hmx
      have hr2 : wr.cell? ⟨w.heap.size, 2, none⟩ = some (.slice (some ⟨ba, oa, none⟩) bs.length ka) := (hbb.cell (p := ⟨w.heap.size, 2, none⟩) hgb1).trans HC.out.2.2.1
      have HF := Lib.hid (And.intro c0 (And.intro c1 (And.intro c2 (And.intro hlj hrest))))
      have HG := Lib.hid (And.intro hr1 (And.intro hr2 (And.intro co ca)))
      have HTr := Lib.hid (HH.out.2.1.below hbw)
      clear hx hdr hv hrest c0 c1 c2 hmx hne hWr hco hca hr2 co ca hlj hbb hbw
      go_upto_region 9 with fail
      go_cut [60] (fun v wx => v = .bool false ∧ Below wr.heap.size wr wx ∧ wx.cell? ⟨wr.heap.size, 0, none⟩ = some (.pointer (some ⟨b, 0, none⟩)))
      case first =>
        have hd : Below wr.heap.size wr (wr.alloc (.cells #[.pointer none] 78)).drew := ((Below.refl _ _).alloc (Nat.le_refl _) _).drew
        have hdl := Tree.lies_below hd (t := .fault b op pl rest) HF.out.2.2.2.1
        have hsl : Slot (wr.alloc (.cells #[.pointer none] 78)).drew wr.heap.size := ⟨by simp, ⟨.pointer none, by simp⟩, by simp⟩
        have HD := Lib.hid (And.intro hdl hsl)
        clear hdl hsl hr1
        go_region_with (first
          | (go_at_call 41; refine (errorsAs_hit (.fault b op pl rest) b _ wr.heap.size rfl ?_ ?_ ?_).mono ?_; exact HD.out.1; exact HD.out.2; exact HTr.out.below hd; rintro e w' ⟨rfl, hbx, k3⟩; have hb' := hd.trans hbx; have k0 := (hb'.cell (p := ⟨b, 0, none⟩) hbl).trans HF.out.1; have k1 := (hb'.cell (p := ⟨b, 1, none⟩) hbl).trans HF.out.2.1; have m1 := (hb'.cell (p := ⟨w.heap.size, 1, none⟩) hgB).trans HG.out.1; have m2 := (hb'.cell (p := ⟨w.heap.size, 2, none⟩) hgB).trans HG.out.2.1; have m3 := (hb'.cell (p := ⟨bo, oo + j, none⟩) hbo).trans HG.out.2.2.1; have m4 := (hb'.cell (p := ⟨ba, oa + j, none⟩) hba).trans HG.out.2.2.2))
        all_goals (go_wp2_with fail; go_meet; exact ⟨rfl, by assumption, by assumption⟩)
      case rest =>
        obtain ⟨rfl, hbx, k3⟩ := hcut
        have k2 := (hbx.cell (p := ⟨b, 2, none⟩) hbl).trans HF.out.2.2.1
        have HX := Lib.hid hbx
        clear hbx hr1
        go_wp2_with fail
        go_roundg (bs.length - (j + 1))
        case rel => exact ⟨j + 1, by omega, by rw [HF.out.2.2.2.2], by go_num, HBB.out.1.trans (HX.out.mono HBB.out.1.size), HBB.out.2.trans (HX.out.mono HBB.out.2.size), Nat.le_refl _⟩
        case measure => omega
    · obtain rfl : j = bs.length := by omega
      have hd : (chainT (bs.drop bs.length) (A k)).val = .iface 150 (.pointer (some (A k))) := by rw [List.drop_length]; rfl
      rw [hd]
      have hr0 : wr.cell? ⟨w.heap.size, 0, none⟩ = some (.int .i64 (k : Int)) := (hbb.cell (p := ⟨w.heap.size, 0, none⟩) hgb1).trans HC.out.1
      have hA := eql_hit wr 150 (A k) (Or.inl rfl)
      clear hd hbb hbw
      go_wp2_with fail
      refine (Root_any (k : Int) _ A (HH.out.1.below HBB.out.2)).mono ?_
      rintro e w' ⟨rfl, rfl⟩
      rw [HH.out.2.2.2.2]
      go_wp2_with fail
      go_ret
      exact ⟨rfl, HBB.out.2⟩
end Go.Proofs.YtmienemnjikgdaaDoor
end
section
namespace Go.Proofs.YtmienemnjikgdaaDoor
open Go.RowKit NatM

/-- a number of edenref02 that is refused: no number, and the error's number k at place pl of package nat -/
def RefErr (w : World) (pl k : Int) (v : Value) (w' : World) : Prop :=
  ∃ po pa, v = .agg #[.int .i64 k, .slice po 1 1, .slice pa 1 1] ∧ WantV w' po pa 1 1 [(natOp, pl)] ∧ Below w.heap.size w w'
def RefErr2 (w : World) (pl k : Int) (e : Ending) (w' : World) : Prop := ∃ v, e = .returned (.tuple #[.slice none 0 0, v]) ∧ RefErr w pl k v w'
def noErr : Value := .agg #[.int .i64 0, .slice none 0 0, .slice none 0 0]
def RefOk2 (w : World) (n : Nat) (e : Ending) (w' : World) : Prop :=
  ∃ p c, e = .returned (.tuple #[.slice p (D32 n).length c, noErr]) ∧ NatO w.heap.size w' p c (D32 n) ∧ Below w.heap.size w w'

/-- an Err of one package is made: its two slices are new memory -/
def RawFresh (w : World) (op : ByteArray) (pl n : Int) (e : Ending) (w' : World) : Prop :=
  ∃ g g', e = .returned (.agg #[.int .i64 n, .slice (some ⟨g, 0, none⟩) 1 1, .slice (some ⟨g', 0, none⟩) 1 1]) ∧ (w.heap.size ≤ g ∧ g < w'.heap.size ∧ w.heap.size ≤ g' ∧ g' < w'.heap.size) ∧ w'.cell? ⟨g, 0, none⟩ = some (.string op) ∧ w'.cell? ⟨g', 0, none⟩ = some (.int .i64 pl) ∧ Below w.heap.size w w'
theorem raw_fresh (op : ByteArray) (pl n : Int) (w : World) :
    Calls Tryd.prog 36 #[.string op, .int .i64 pl, .int .i64 n] w (RawFresh w op pl n) := by
  go_enter Tryd.func36, Tryd.ntmps36
  go_wp2_with fail
  refine bodyPost_ret (v := .agg #[.int .i64 n, .slice (some ⟨w.heap.size + 1, 0, none⟩) 1 1, .slice (some ⟨w.heap.size + 1 + 1, 0, none⟩) 1 1]) (by simp [results, Tryd.results36, go_sem]) rfl ⟨_, _, rfl, ⟨by omega, by simp, by omega, by simp⟩, ?_, ?_, ?_⟩
  · show World.cell? _ ⟨w.heap.size + 1, 0, none⟩ = _
    rw [World.cell?_alloc_lt _ _ ⟨w.heap.size + 1, 0, none⟩ (by simp), cell_alloc_at _ _ _ _ _ (by simp)]
    rfl
  · show World.cell? _ ⟨w.heap.size + 1 + 1, 0, none⟩ = _
    rw [cell_alloc_at _ _ _ _ _ (by simp)]
    rfl
  · exact (((Below.refl _ _).alloc (Nat.le_refl _) _).alloc (by simp) _).alloc (by simp; omega) _
theorem WantV.one {w : World} {g g' : Nat} {op : ByteArray} {pl : Int} (hg : g < w.heap.size) (hg' : g' < w.heap.size) (h : w.cell? ⟨g, 0, none⟩ = some (.string op)) (h' : w.cell? ⟨g', 0, none⟩ = some (.int .i64 pl)) : WantV w (some ⟨g, 0, none⟩) (some ⟨g', 0, none⟩) 1 1 [(op, pl)] :=
  ⟨fun _ => ⟨g, 0, rfl, hg, fun j x hx => by
    match j, hx with
    | 0, hx => simp at hx; subst hx; exact h⟩, fun _ => ⟨g', 0, rfl, hg', fun j x hx => by
    match j, hx with
    | 0, hx => simp at hx; subst hx; exact h'⟩, Nat.le_refl _, Nat.le_refl _, by decide, by decide⟩
/-- the three cells of a result of type Err are set -/
def put3 (w : World) (h : Nat) (a b c : Value) : World := ((w.setCell ⟨h, 0, none⟩ a).setCell ⟨h, 1, none⟩ b).setCell ⟨h, 2, none⟩ c
theorem put3_size (w : World) (h : Nat) (a b c : Value) : (put3 w h a b c).heap.size = w.heap.size := by simp [put3]
theorem put3_cell (w : World) (h : Nat) (a b c : Value) (p : Addr) (hp : p.block ≠ h) : (put3 w h a b c).cell? p = w.cell? p := by
  unfold put3
  have e : ∀ (u : World) (x : Addr) (v : Value), x.block = h → (u.setCell x v).cell? p = u.cell? p := fun u x v hx => World.cell?_of_block (heap_setCell_other u x p.block v (by rw [hx]; exact hp))
  rw [e _ _ _ rfl, e _ _ _ rfl, e _ _ _ rfl]
theorem put3_below {B h : Nat} {w0 w : World} (hb : Below B w0 w) (hB : B ≤ h) (a b c : Value) : Below B w0 (put3 w h a b c) := ((hb.setCell hB _).setCell hB _).setCell hB _
theorem NatO.put3 {base h : Nat} {w : World} {p : Option Addr} {c : Nat} {l : List Nat} (ho : NatO base w p c l) (hh : h < base) (a b d : Value) : NatO base (put3 w h a b d) p c l :=
  ⟨ownsRow_setCell_below (ownsRow_setCell_below (ownsRow_setCell_below ho.own (a := ⟨h, 0, none⟩) hh a) (a := ⟨h, 1, none⟩) hh b) (a := ⟨h, 2, none⟩) hh d, ho.ok⟩
/-- where the three cells of a result lie -/
structure Err3 (w : World) (h : Nat) (a b c : Value) : Prop where
  heap : w.heap[h]? = some (.cells #[a, b, c] 33 (0, 0))
theorem Err3.new (w : World) : Err3 (w.alloc (.cells #[.int .i64 0, .slice none 0 0, .slice none 0 0] 33)) w.heap.size (.int .i64 0) (.slice none 0 0) (.slice none 0 0) := ⟨heap_alloc_new w _⟩
theorem Err3.next {w w' : World} {h : Nat} {a b c : Value} (hb : Below w.heap.size w w') (k : Err3 w h a b c) : Err3 w' h a b c := ⟨by rw [hb.block _ (heap_ltN k.heap)]; exact k.heap⟩
theorem Err3.facts {w : World} {h : Nat} {a b c : Value} (k : Err3 w h a b c) : (w.frozen? ⟨h, 0, none⟩ = false ∧ w.frozen? ⟨h, 1, none⟩ = false ∧ w.frozen? ⟨h, 2, none⟩ = false) ∧ w.cell? ⟨h, 0, none⟩ = some a ∧ w.cell? ⟨h, 1, none⟩ = some b ∧ w.cell? ⟨h, 2, none⟩ = some c := by
  have hh := k.heap
  exact ⟨⟨by simp [World.frozen?, hh], by simp [World.frozen?, hh], by simp [World.frozen?, hh]⟩, cell_of_row w h 0 _ _ _ hh, cell_of_row w h 1 _ _ _ hh, cell_of_row w h 2 _ _ _ hh⟩

end Go.Proofs.YtmienemnjikgdaaDoor
end
section
namespace Go.Proofs.YtmienemnjikgdaaDoor
open Go.RowKit Go.Extern.Stop Go.Stop Go.Extern WordM RuleM

/-- a rule in a block of its own -/
structure Rul3 (w : World) (h : Nat) (a b c : Value) : Prop where
  heap : w.heap[h]? = some (.cells #[a, b, c] 24 (0, 0))
theorem Rul3.new (w : World) (a b c : Value) : Rul3 (w.alloc (.cells #[a, b, c] 24)) w.heap.size a b c := ⟨heap_newN w _⟩
theorem Rul3.next {w w' : World} {h : Nat} {a b c : Value} (hb : Below w.heap.size w w') (k : Rul3 w h a b c) : Rul3 w' h a b c := ⟨(hb.block h (heap_ltN k.heap)).trans k.heap⟩
theorem Rul3.lt {w : World} {h : Nat} {a b c : Value} (k : Rul3 w h a b c) : h < w.heap.size := heap_ltN k.heap
theorem Rul3.facts {w : World} {h : Nat} {a b c : Value} (k : Rul3 w h a b c) : (w.frozen? ⟨h, 0, none⟩ = false ∧ w.frozen? ⟨h, 1, none⟩ = false ∧ w.frozen? ⟨h, 2, none⟩ = false) ∧ w.cell? ⟨h, 0, none⟩ = some a ∧ w.cell? ⟨h, 1, none⟩ = some b ∧ w.cell? ⟨h, 2, none⟩ = some c :=
  ⟨⟨by simp [World.frozen?, k.heap], by simp [World.frozen?, k.heap], by simp [World.frozen?, k.heap]⟩, cell_of_row w h 0 _ _ _ k.heap, cell_of_row w h 1 _ _ _ k.heap, cell_of_row w h 2 _ _ _ k.heap⟩

theorem strayN_ok {k : Nat} {l : List Int} (h : okW k l) : strayN k l = l.length := by
  unfold strayN
  rw [bad_none.2 h]; rfl
theorem strayN_bad {k : Int} {l : List Int} {i : Nat} (h : l.findIdx? (badAt k) = some i) : strayN k l = i := by
  unfold strayN
  rw [h]; rfl
theorem strayN_lt {k : Int} {l : List Int} {i : Nat} (h : l.findIdx? (badAt k) = some i) : i < l.length := by
  obtain ⟨hil, _⟩ := List.findIdx?_eq_some_iff_getElem.1 h
  exact hil

set_option maxRecDepth 100000 in
set_option maxHeartbeats 1000000 in
theorem rcheck_ok (k r : Nat) (p : Option Addr) (n c : Nat) (t : List Int) (w : World) (hn : n = t.length) (h : IntV w.heap.size w p c t) (ho : OkR k r t) :
    Calls Tryd.prog 48 #[.agg #[.int .i64 (k : Int), .int .i64 (r : Int), .slice p n c]] w (Tells .nilIface w) := by
  have h1 := ho.k1
  have h4 := ho.k4
  have h3 := ho.r3
  obtain ⟨S, hS⟩ : ∃ S, k ^ (2 * r + 1) = S := ⟨_, rfl⟩
  have hsz := size_ok k r
  rw [hS] at hsz
  have hnS : n = S := by rw [hn, ho.len, hS]
  have hst := strayN_ok ho.ok
  rw [← hn] at hst
  have hSle := pow_le (r := r) h4 h3
  rw [hS] at hSle
  subst hnS
  have H := Lib.hid (And.intro h (And.intro hn (And.intro hsz hst)))
  clear h hn ho hS hsz hst
  go_enter Tryd.func48, Tryd.ntmps48
  go_wp2_with fail
  obtain ⟨w0, hw0⟩ : ∃ w0, w0 = w.alloc (.cells #[.int .i64 (k : Int), .int .i64 (r : Int), .slice p n c] 24) := ⟨_, rfl⟩
  have hb0 : Below w.heap.size w w0 := by rw [hw0]; exact (Below.refl _ _).alloc (Nat.le_refl _) _
  have hE0 : Rul3 w0 w.heap.size (.int .i64 (k : Int)) (.int .i64 (r : Int)) (.slice p n c) := by rw [hw0]; exact Rul3.new w _ _ _
  rw [← hw0]
  obtain ⟨⟨hf0, hf1, hf2⟩, hc0, hc1, hc2⟩ := hE0.facts
  have HE := Lib.hid (And.intro hE0 hb0)
  clear hw0 hE0 hb0
  go_wp2_with fail
  refine (H.out.2.2.1 w0 h1 h4 h3).mono ?_
  rintro e w1 ⟨rfl, rfl⟩
  go_wp2_with fail
  refine (stray_any (k : Int) p n c t w0 H.out.2.1 (H.out.1.next HE.out.2)).mono ?_
  rintro e w1 ⟨rfl, rfl⟩
  rw [H.out.2.2.2]
  go_wp2_with fail
  go_ret
  exact ⟨rfl, HE.out.2⟩

set_option maxRecDepth 100000 in
set_option maxHeartbeats 1000000 in
theorem rcheck_bad (k r : Int) (p : Option Addr) (n c : Nat) (t : List Int) (w : World) (A : Nat → Addr) (hr : Roots w A) (hn : n = t.length) (h : IntV w.heap.size w p c t) (i : Nat) (hc : chkR k r t = some i) :
    Calls Tryd.prog 48 #[.agg #[.int .i64 k, .int .i64 r, .slice p n c]] w (Err1 w A ruleOp i 1) := by
  have hle := h.le
  have hcap := h.cap
  unfold maxLen at hcap
  have hn63 : n ≤ 9223372036854775807 := by omega
  have start : ∀ (w0 : World), w0 = w.alloc (.cells #[.int .i64 k, .int .i64 r, .slice p n c] 24) → Below w.heap.size w w0 ∧ Rul3 w0 w.heap.size (.int .i64 k) (.int .i64 r) (.slice p n c) := fun w0 hw0 =>
    ⟨by rw [hw0]; exact (Below.refl _ _).alloc (Nat.le_refl _) _, by rw [hw0]; exact Rul3.new w _ _ _⟩
  have ST := Lib.hid start
  clear start hle hcap
  unfold chkR at hc
  split at hc
  · obtain rfl := Option.some.inj hc
    rename_i hk
    have HR := Lib.hid hr
    clear h hn hc hr
    rcases (by omega : k < 1 ∨ (¬ k < 1 ∧ 4 < k)) with h1 | ⟨h1, h2⟩
    all_goals
      clear hk
      go_enter Tryd.func48, Tryd.ntmps48
      go_wp2_with fail
      obtain ⟨w0, hw0⟩ : ∃ w0, w0 = w.alloc (.cells #[.int .i64 k, .int .i64 r, .slice p n c] 24) := ⟨_, rfl⟩
      rw [← hw0]
      obtain ⟨hb0, hE0⟩ := ST.out w0 hw0
      obtain ⟨⟨hf0, hf1, hf2⟩, hc0, hc1, hc2⟩ := hE0.facts
      have HE := Lib.hid (And.intro hE0 hb0)
      clear hw0 hE0 hb0
      go_wp2_with fail
      refine (new_at ruleOp 0 1 w0 A (HR.out.below HE.out.2) (by omega)).mono ?_
      rintro e w1 ⟨b, rfl, hl1, hb1⟩
      have H := Lib.hid (And.intro hl1 (HE.out.2.trans (hb1.mono HE.out.2.size)))
      clear hl1 hb1
      go_wp2_with fail
      go_ret
      exact ⟨_, rfl, H.out.1, H.out.2⟩
  · rename_i hk
    have h1 : ¬ k < 1 := by omega
    have h4 : ¬ 4 < k := by omega
    split at hc
    · obtain rfl := Option.some.inj hc
      rename_i hrr
      have HR := Lib.hid (And.intro hr hrr)
      clear h hn hc hr hk hrr
      go_enter Tryd.func48, Tryd.ntmps48
      go_wp2_with fail
      obtain ⟨w0, hw0⟩ : ∃ w0, w0 = w.alloc (.cells #[.int .i64 k, .int .i64 r, .slice p n c] 24) := ⟨_, rfl⟩
      rw [← hw0]
      obtain ⟨hb0, hE0⟩ := ST.out w0 hw0
      obtain ⟨⟨hf0, hf1, hf2⟩, hc0, hc1, hc2⟩ := hE0.facts
      have HE := Lib.hid (And.intro hE0 hb0)
      clear hw0 hE0 hb0
      go_wp2_with fail
      refine (size_bad k r w0 A (HR.out.1.below HE.out.2) (Or.inr HR.out.2)).mono ?_
      rintro e w1 ⟨b1, rfl, _, hb1⟩
      have H1 := Lib.hid (HE.out.2.trans (hb1.mono HE.out.2.size))
      clear hb1
      go_wp2_with fail
      refine (new_at ruleOp 1 1 w1 A (HR.out.1.below H1.out) (by omega)).mono ?_
      rintro e w2 ⟨b, rfl, hl2, hb2⟩
      have H := Lib.hid (And.intro hl2 (H1.out.trans (hb2.mono H1.out.size)))
      clear hl2 hb2
      go_wp2_with fail
      go_ret
      exact ⟨_, rfl, H.out.1, H.out.2⟩
    · rename_i hrr
      obtain ⟨K, rfl⟩ : ∃ K : Nat, k = K := ⟨k.toNat, by omega⟩
      obtain ⟨R, rfl⟩ : ∃ R : Nat, r = R := ⟨r.toNat, by omega⟩
      have hk1 : 1 ≤ K := by omega
      have hk4 : K ≤ 4 := by omega
      have hr3 : R ≤ 3 := by omega
      obtain ⟨S, hS⟩ : ∃ S, K ^ (2 * R + 1) = S := ⟨_, rfl⟩
      have hsz := size_ok K R
      rw [hS] at hsz
      have hSle := pow_le (r := R) hk4 hr3
      rw [hS] at hSle
      rw [Int.toNat_natCast, Int.toNat_natCast, hS] at hc
      split at hc
      · obtain rfl := Option.some.inj hc
        rename_i hlen
        have HR := Lib.hid (And.intro hr hsz)
        have hnS : ¬ (n : Int) = (S : Int) := by omega
        have hnS' : ((n : Int) == (S : Int)) = false := by simpa using hnS
        clear h hn hc hr hk hrr hS hsz hlen
        go_enter Tryd.func48, Tryd.ntmps48
        go_wp2_with fail
        obtain ⟨w0, hw0⟩ : ∃ w0, w0 = w.alloc (.cells #[.int .i64 (K : Int), .int .i64 (R : Int), .slice p n c] 24) := ⟨_, rfl⟩
        rw [← hw0]
        obtain ⟨hb0, hE0⟩ := ST.out w0 hw0
        obtain ⟨⟨hf0, hf1, hf2⟩, hc0, hc1, hc2⟩ := hE0.facts
        have HE := Lib.hid (And.intro hE0 hb0)
        clear hw0 hE0 hb0
        go_wp2_with fail
        refine (HR.out.2 w0 hk1 hk4 hr3).mono ?_
        rintro e w1 ⟨rfl, rfl⟩
        go_wp2_with fail
        refine (new_at ruleOp 2 1 w0 A (HR.out.1.below HE.out.2) (by omega)).mono ?_
        rintro e w2 ⟨b, rfl, hl2, hb2⟩
        have H := Lib.hid (And.intro hl2 (HE.out.2.trans (hb2.mono HE.out.2.size)))
        clear hl2 hb2
        go_wp2_with fail
        go_ret
        exact ⟨_, rfl, H.out.1, H.out.2⟩
      · rename_i hlen
        obtain ⟨j, hj, rfl⟩ := Option.map_eq_some_iff.1 hc
        have hjl := strayN_lt hj
        have hst := strayN_bad hj
        have hnS : n = S := by omega
        have hjn : j < n := by omega
        subst hnS
        have H := Lib.hid (And.intro h (And.intro hn (And.intro hsz (And.intro hst hr))))
        clear h hn hc hr hk hrr hS hsz hlen hj hst hjl
        go_enter Tryd.func48, Tryd.ntmps48
        go_wp2_with fail
        obtain ⟨w0, hw0⟩ : ∃ w0, w0 = w.alloc (.cells #[.int .i64 (K : Int), .int .i64 (R : Int), .slice p n c] 24) := ⟨_, rfl⟩
        rw [← hw0]
        obtain ⟨hb0, hE0⟩ := ST.out w0 hw0
        obtain ⟨⟨hf0, hf1, hf2⟩, hc0, hc1, hc2⟩ := hE0.facts
        have HE := Lib.hid (And.intro hE0 hb0)
        clear hw0 hE0 hb0
        go_wp2_with fail
        refine (H.out.2.2.1 w0 hk1 hk4 hr3).mono ?_
        rintro e w1 ⟨rfl, rfl⟩
        go_wp2_with fail
        refine (stray_any (K : Int) p n c t w0 H.out.2.1 (H.out.1.next HE.out.2)).mono ?_
        rintro e w1 ⟨rfl, rfl⟩
        rw [H.out.2.2.2.1]
        go_wp2_with fail
        refine (new_at ruleOp (3 + (j : Int)) 1 w0 A (H.out.2.2.2.2.below HE.out.2) (by omega)).mono ?_
        rintro e w2 ⟨b, rfl, hl2, hb2⟩
        have HF := Lib.hid (And.intro hl2 (HE.out.2.trans (hb2.mono HE.out.2.size)))
        clear hl2 hb2
        go_wp2_with fail
        go_ret
        exact ⟨_, rfl, by have := HF.out.1; rwa [show ((3 + j : Nat) : Int) = 3 + (j : Int) by push_cast; rfl], HF.out.2⟩

theorem small_size_ok (k r : Nat) (w : World) (h1 : 1 ≤ k) (h4 : k ≤ 4) (h3 : r ≤ 3) (hs : k ^ (2 * r + 1) ≤ 256) :
    Calls Tryd.prog 76 #[.int .i64 (k : Int), .int .i64 (r : Int)] w (SizeOk w (k ^ (2 * r + 1))) := by
  have hsz := size_ok k r w h1 h4 h3
  obtain ⟨S, hS⟩ : ∃ S, k ^ (2 * r + 1) = S := ⟨_, rfl⟩
  rw [hS] at hs hsz ⊢
  have H := Lib.hid hsz
  clear hsz hS
  go_enter Tryd.func76, Tryd.ntmps76
  go_wp2_with fail
  refine H.out.mono ?_
  rintro e w1 ⟨rfl, rfl⟩
  go_wp2_with fail
  go_ret2
  exact ⟨rfl, rfl⟩
theorem small_size_big (k r : Nat) (w : World) (A : Nat → Addr) (hr : Roots w A) (h1 : 1 ≤ k) (h4 : k ≤ 4) (h3 : r ≤ 3) (hs : 256 < k ^ (2 * r + 1)) :
    Calls Tryd.prog 76 #[.int .i64 (k : Int), .int .i64 (r : Int)] w (Err2 w A ruleOp 0 4 (.int .i64 0)) := by
  have hsz := size_ok k r w h1 h4 h3
  have hle := pow_le h4 h3
  obtain ⟨S, hS⟩ : ∃ S, k ^ (2 * r + 1) = S := ⟨_, rfl⟩
  rw [hS] at hs hsz hle
  have H := Lib.hid (And.intro hsz hr)
  clear hsz hS hr
  go_enter Tryd.func76, Tryd.ntmps76
  go_wp2_with fail
  refine H.out.1.mono ?_
  rintro e w1 ⟨rfl, rfl⟩
  go_wp2_with fail
  refine (new_at ruleOp 0 4 w A H.out.2 (by omega)).mono ?_
  rintro e w2 ⟨b, rfl, hl2, hb2⟩
  have HF := Lib.hid (And.intro hl2 hb2)
  clear hl2 hb2
  go_wp2_with fail
  go_ret2
  exact ⟨_, rfl, HF.out.1, HF.out.2⟩
theorem small_size_bad (k r : Int) (w : World) (A : Nat → Addr) (hr : Roots w A) (h : (k < 1 ∨ 4 < k) ∨ r < 0 ∨ 3 < r) :
    Calls Tryd.prog 76 #[.int .i64 k, .int .i64 r] w (Err2 w A ruleOp 0 3 (.int .i64 0)) := by
  have H := Lib.hid (size_bad k r w A hr h)
  clear h hr
  go_enter Tryd.func76, Tryd.ntmps76
  go_wp2_with fail
  refine H.out.mono ?_
  rintro e w1 ⟨b, rfl, hl1, hb1⟩
  have HF := Lib.hid (And.intro hl1 hb1)
  clear hl1 hb1
  go_wp2_with fail
  go_ret2
  exact ⟨_, rfl, HF.out.1, HF.out.2⟩

/-- the fault of a rule that ought to be small: the place and the number -/
def chkS (k r : Int) (t : List Int) : Option (Nat × Nat) := match chkR k r t with
  | some i => some (i, 1)
  | none => if 256 < t.length then some (0, 4) else none
theorem chkS_none {k r : Int} {t : List Int} (h : chkS k r t = none) : ∃ K R : Nat, k = K ∧ r = R ∧ OkR K R t ∧ t.length ≤ 256 := by
  unfold chkS at h
  split at h
  · cases h
  · rename_i hn
    obtain ⟨K, R, h1, h2, h3⟩ := chkR_none hn
    split at h
    · cases h
    · exact ⟨K, R, h1, h2, h3, by omega⟩
theorem chkS_ok {K R : Nat} {t : List Int} (h : OkR K R t) (hl : t.length ≤ 256) : chkS K R t = none := by
  unfold chkS
  rw [chkR_ok h]
  simp only []
  rw [if_neg (by omega)]

set_option maxRecDepth 100000 in
set_option maxHeartbeats 1000000 in
theorem small_ok (k r : Nat) (p : Option Addr) (n c : Nat) (t : List Int) (w : World) (hn : n = t.length) (h : IntV w.heap.size w p c t) (ho : OkR k r t) (hs : t.length ≤ 256) :
    Calls Tryd.prog 56 #[.agg #[.int .i64 (k : Int), .int .i64 (r : Int), .slice p n c]] w (Tells .nilIface w) := by
  have H := Lib.hid (And.intro h (And.intro hn (And.intro ho hs)))
  clear h hn ho hs
  go_enter Tryd.func56, Tryd.ntmps56
  go_wp2_with fail
  obtain ⟨w0, hw0⟩ : ∃ w0, w0 = w.alloc (.cells #[.int .i64 (k : Int), .int .i64 (r : Int), .slice p n c] 24) := ⟨_, rfl⟩
  have hb0 : Below w.heap.size w w0 := by rw [hw0]; exact (Below.refl _ _).alloc (Nat.le_refl _) _
  have hE0 : Rul3 w0 w.heap.size (.int .i64 (k : Int)) (.int .i64 (r : Int)) (.slice p n c) := by rw [hw0]; exact Rul3.new w _ _ _
  rw [← hw0]
  obtain ⟨⟨hf0, hf1, hf2⟩, hc0, hc1, hc2⟩ := hE0.facts
  have HE := Lib.hid (And.intro hE0 hb0)
  clear hw0 hE0 hb0
  go_wp2_with fail
  refine (rcheck_ok k r p n c t w0 H.out.2.1 (H.out.1.next HE.out.2) H.out.2.2.1).mono ?_
  rintro e w1 ⟨rfl, hb1⟩
  have H1 := Lib.hid (And.intro (HE.out.1.next hb1) (HE.out.2.trans (hb1.mono HE.out.2.size)))
  clear hb1 hf0 hf1 hf2 hc0 hc1 hc2
  obtain ⟨⟨hf0, hf1, hf2⟩, hc0, hc1, hc2⟩ := H1.out.1.facts
  go_wp2_with fail
  refine (small_size_ok k r w1 H.out.2.2.1.k1 H.out.2.2.1.k4 H.out.2.2.1.r3 (by rw [← H.out.2.2.1.len]; exact H.out.2.2.2)).mono ?_
  rintro e w2 ⟨rfl, rfl⟩
  go_wp2_with fail
  go_ret
  exact ⟨rfl, H1.out.2⟩
set_option maxRecDepth 100000 in
set_option maxHeartbeats 1000000 in
theorem small_bad (k r : Int) (p : Option Addr) (n c : Nat) (t : List Int) (w : World) (A : Nat → Addr) (hr : Roots w A) (hn : n = t.length) (h : IntV w.heap.size w p c t) (i m : Nat) (hc : chkS k r t = some (i, m)) :
    Calls Tryd.prog 56 #[.agg #[.int .i64 k, .int .i64 r, .slice p n c]] w (Err1 w A ruleOp i m) := by
  unfold chkS at hc
  have start : ∀ (w0 : World), w0 = w.alloc (.cells #[.int .i64 k, .int .i64 r, .slice p n c] 24) → Below w.heap.size w w0 ∧ Rul3 w0 w.heap.size (.int .i64 k) (.int .i64 r) (.slice p n c) := fun w0 hw0 =>
    ⟨by rw [hw0]; exact (Below.refl _ _).alloc (Nat.le_refl _) _, by rw [hw0]; exact Rul3.new w _ _ _⟩
  have ST := Lib.hid start
  clear start
  split at hc
  · obtain ⟨rfl, rfl⟩ := Prod.mk.inj (Option.some.inj hc)
    rename_i hcr
    have H := Lib.hid (And.intro h (And.intro hn (And.intro hr hcr)))
    clear h hn hr hcr hc
    go_enter Tryd.func56, Tryd.ntmps56
    go_wp2_with fail
    obtain ⟨w0, hw0⟩ : ∃ w0, w0 = w.alloc (.cells #[.int .i64 k, .int .i64 r, .slice p n c] 24) := ⟨_, rfl⟩
    rw [← hw0]
    obtain ⟨hb0, hE0⟩ := ST.out w0 hw0
    obtain ⟨⟨hf0, hf1, hf2⟩, hc0, hc1, hc2⟩ := hE0.facts
    have HE := Lib.hid (And.intro hE0 hb0)
    clear hw0 hE0 hb0
    go_wp2_with fail
    refine (rcheck_bad k r p n c t w0 A (H.out.2.2.1.below HE.out.2) H.out.2.1 (H.out.1.next HE.out.2) _ H.out.2.2.2).mono ?_
    rintro e w1 ⟨b, rfl, hl1, hb1⟩
    have HF := Lib.hid (And.intro hl1 (HE.out.2.trans (hb1.mono HE.out.2.size)))
    clear hl1 hb1
    go_wp2_with fail
    go_ret
    exact ⟨_, rfl, HF.out.1, HF.out.2⟩
  · split at hc
    · obtain ⟨rfl, rfl⟩ := Prod.mk.inj (Option.some.inj hc)
      rename_i hcr hbig
      obtain ⟨K, R, rfl, rfl, ho⟩ := chkR_none hcr
      have H := Lib.hid (And.intro h (And.intro hn (And.intro hr (And.intro ho hbig))))
      clear h hn hr hcr hc ho hbig
      go_enter Tryd.func56, Tryd.ntmps56
      go_wp2_with fail
      obtain ⟨w0, hw0⟩ : ∃ w0, w0 = w.alloc (.cells #[.int .i64 (K : Int), .int .i64 (R : Int), .slice p n c] 24) := ⟨_, rfl⟩
      rw [← hw0]
      obtain ⟨hb0, hE0⟩ := ST.out w0 hw0
      obtain ⟨⟨hf0, hf1, hf2⟩, hc0, hc1, hc2⟩ := hE0.facts
      have HE := Lib.hid (And.intro hE0 hb0)
      clear hw0 hE0 hb0
      go_wp2_with fail
      refine (rcheck_ok K R p n c t w0 H.out.2.1 (H.out.1.next HE.out.2) H.out.2.2.2.1).mono ?_
      rintro e w1 ⟨rfl, hb1⟩
      have H1 := Lib.hid (And.intro (HE.out.1.next hb1) (HE.out.2.trans (hb1.mono HE.out.2.size)))
      clear hb1 hf0 hf1 hf2 hc0 hc1 hc2
      obtain ⟨⟨hf0, hf1, hf2⟩, hc0, hc1, hc2⟩ := H1.out.1.facts
      go_wp2_with fail
      refine (small_size_big K R w1 A (H.out.2.2.1.below H1.out.2) H.out.2.2.2.1.k1 H.out.2.2.2.1.k4 H.out.2.2.2.1.r3 (by rw [← H.out.2.2.2.1.len]; exact H.out.2.2.2.2)).mono ?_
      rintro e w2 ⟨b, rfl, hl2, hb2⟩
      have HF := Lib.hid (And.intro hl2 (H1.out.2.trans (hb2.mono H1.out.2.size)))
      clear hl2 hb2
      go_wp2_with fail
      go_ret
      exact ⟨_, rfl, HF.out.1, HF.out.2⟩
    · cases hc
end Go.Proofs.YtmienemnjikgdaaDoor
end
section
namespace Go.Proofs.YtmienemnjikgdaaDoor
open Go.RowKit Go.Extern.Stop Go.Stop Go.Extern

/-- block b begins a chain: these packages and places, one within another, and then the error of the number -/
def Chn (w : World) (A : Nat → Addr) (b : Nat) (L : List (ByteArray × Int)) (m : Nat) : Prop :=
  ∃ (op : ByteArray) (pl : Int) (bs : List (Nat × ByteArray × Int)), (op, pl) :: bs.map Prod.snd = L ∧ (chainT ((b, op, pl) :: bs) (A m)).lies w
theorem Chn.next {w w' : World} {A : Nat → Addr} {b : Nat} {L : List (ByteArray × Int)} {m : Nat} (hb : Below w.heap.size w w') (h : Chn w A b L m) : Chn w' A b L m := by
  obtain ⟨op, pl, bs, h1, h2⟩ := h
  exact ⟨op, pl, bs, h1, Tree.lies_below hb h2⟩
theorem Chn.one {w : World} {A : Nat → Addr} {b : Nat} {op : ByteArray} {pl : Int} {m : Nat} (h : (Tree.fault b op pl (.leaf (A m))).lies w) : Chn w A b [(op, pl)] m := ⟨op, pl, [], rfl, h⟩
/-- an error, alone -/
def FErr1 (w : World) (A : Nat → Addr) (L : List (ByteArray × Int)) (m : Nat) (e : Ending) (w' : World) : Prop :=
  ∃ b, e = .returned (.iface 78 (.pointer (some ⟨b, 0, none⟩))) ∧ Chn w' A b L m ∧ Below w.heap.size w w'
/-- an error behind a first result -/
def FErr2 (w : World) (A : Nat → Addr) (L : List (ByteArray × Int)) (m : Nat) (u : Value) (e : Ending) (w' : World) : Prop :=
  ∃ b, e = .returned (.tuple #[u, .iface 78 (.pointer (some ⟨b, 0, none⟩))]) ∧ Chn w' A b L m ∧ Below w.heap.size w w'
theorem Err1.chn {w : World} {A : Nat → Addr} {op : ByteArray} {pl : Int} {m : Nat} {e : Ending} {w' : World} (h : Err1 w A op pl m e w') : FErr1 w A [(op, pl)] m e w' := by
  obtain ⟨b, he, hl, hb⟩ := h
  exact ⟨b, he, Chn.one hl, hb⟩
theorem Err2.chn {w : World} {A : Nat → Addr} {op : ByteArray} {pl : Int} {m : Nat} {u : Value} {e : Ending} {w' : World} (h : Err2 w A op pl m u e w') : FErr2 w A [(op, pl)] m u e w' := by
  obtain ⟨b, he, hl, hb⟩ := h
  exact ⟨b, he, Chn.one hl, hb⟩
theorem under_chn (op : ByteArray) (pl : Int) (b : Nat) (L : List (ByteArray × Int)) (m : Nat) (w : World) (A : Nat → Addr) (h : Chn w A b L m) :
    Calls Tryd.prog 57 #[.string op, .int .i64 pl, .iface 78 (.pointer (some ⟨b, 0, none⟩))] w (FErr1 w A ((op, pl) :: L) m) := by
  obtain ⟨op', pl', bs, rfl, hl⟩ := h
  exact (under_any op pl (chainT ((b, op', pl') :: bs) (A m)) w hl rfl).mono fun e w' ⟨he, hb, _, hl'⟩ => ⟨w.heap.size, he, ⟨op, pl, (b, op', pl') :: bs, rfl, hl'⟩, hb⟩
theorem under_none (op : ByteArray) (pl : Int) (w : World) :
    Calls Tryd.prog 57 #[.string op, .int .i64 pl, .nilIface] w (Tells .nilIface w) := Tells.of_same (under_nil op pl w)
/-- the document's: its number, and its two slices of one length -/
def WChn (w : World) (x : Option (List (ByteArray × Int) × Nat)) (a : Int) (po pa : Option Addr) (n : Nat) : Prop := match x with
  | none => a = 0 ∧ po = none ∧ pa = none ∧ n = 0
  | some (L, m) => a = m ∧ n = L.length ∧ WantV w po pa n n L
theorem WChn.next {w w' : World} {x : Option (List (ByteArray × Int) × Nat)} {a : Int} {po pa : Option Addr} {n : Nat} (hb : Below w.heap.size w w') (h : WChn w x a po pa n) : WChn w' x a po pa n := by
  cases x with
  | none => exact h
  | some y => exact ⟨h.1, h.2.1, h.2.2.below hb⟩
/-- the program's: nil, or a chain -/
def PChn (w : World) (A : Nat → Addr) (x : Option (List (ByteArray × Int) × Nat)) (v : Value) : Prop := match x with
  | none => v = .nilIface
  | some (L, m) => ∃ b, v = .iface 78 (.pointer (some ⟨b, 0, none⟩)) ∧ Chn w A b L m
theorem PChn.next {w w' : World} {A : Nat → Addr} {x : Option (List (ByteArray × Int) × Nat)} {v : Value} (hb : Below w.heap.size w w') (h : PChn w A x v) : PChn w' A x v := by
  cases x with
  | none => exact h
  | some y =>
    obtain ⟨b, h1, h2⟩ := h
    exact ⟨b, h1, h2.next hb⟩
theorem is_chn {w : World} {A : Nat → Addr} {x : Option (List (ByteArray × Int) × Nat)} {v : Value} {a : Int} {po pa : Option Addr} {n : Nat} (hr : Roots w A) (hT : TypeVar w) (hx : ∀ y, x = some y → 1 ≤ y.2 ∧ y.2 ≤ 11) (h : PChn w A x v) (h' : WChn w x a po pa n) :
    Calls Tryd.prog 14 #[v, .agg #[.int .i64 a, .slice po n n, .slice pa n n]] w (Tells (.bool true) w) := by
  cases x with
  | none =>
    obtain ⟨rfl, rfl, rfl, rfl⟩ := h'
    obtain rfl : v = .nilIface := h
    exact Is_none none none 0 0 0 0 w
  | some y =>
    obtain ⟨rfl, hn, hw⟩ := h'
    obtain ⟨b, rfl, op, pl, bs, hL, hl⟩ := h
    have hL2 : List.map Prod.snd ((b, op, pl) :: bs) = y.1 := hL
    exact Is_chain ((b, op, pl) :: bs) y.2 (hx y rfl) po pa n n n w A hr hT hl (by rw [hL2]; exact hw) (by rw [hn, ← hL2, List.length_map])
end Go.Proofs.YtmienemnjikgdaaDoor
end
section
namespace Go.Proofs.YtmienemnjikgdaaDoor.RuleM
open WordM

/-- the word of n symbols that writes x -/
def digW (k : Nat) : Nat → Nat → List Int
  | 0, _ => []
  | n + 1, x => digW k n (x / k) ++ [((x % k : Nat) : Int)]
theorem digW_length (k : Nat) : ∀ (n x : Nat), (digW k n x).length = n
  | 0, _ => rfl
  | n + 1, x => by unfold digW; rw [List.length_append, digW_length k n]; rfl
theorem digW_ok {k : Nat} (hk : 1 ≤ k) : ∀ (n x : Nat), okW k (digW k n x)
  | 0, _ => okW_nil k
  | n + 1, x => by
    unfold digW
    refine okW_app (digW_ok hk n _) (fun y hy => ?_)
    have hm : x % k < k := Nat.mod_lt _ hk
    simp at hy
    omega
theorem digW_val {k : Nat} (hk : 1 ≤ k) : ∀ (n x : Nat), x < k ^ n → valW k (digW k n x) = x
  | 0, x, h => by simp at h; subst h; rfl
  | n + 1, x, h => by
    unfold digW
    rw [valW_snoc, digW_val hk n (x / k) ((Nat.div_lt_iff_lt_mul hk).2 (by rw [← Nat.pow_succ]; exact h)), Int.toNat_natCast]
    have := Nat.div_add_mod x k
    rw [Nat.mul_comm] at this
    exact this
theorem digW_of {k : Nat} (hk : 1 ≤ k) {X : List Int} (h : okW k X) : digW k X.length (valW k X) = X :=
  valW_inj (by rw [digW_length]) (digW_ok hk _ _) h (digW_val hk _ _ (valW_lt h))

def symN (X : List Int) (j : Nat) : Nat := (X.getD j 0).toNat
/-- the first J symbols times the factors, added up -/
def dotN (fm : Nat → Nat) (X : List Int) : Nat → Nat
  | 0 => 0
  | j + 1 => dotN fm X j + symN X j * fm j
theorem dot_add {fm : Nat → Nat} {A B C : List Int} {K : Nat} : ∀ {J : Nat}, (∀ j, j < J → symN C j = (symN A j + symN B j) % K) → dotN fm C J % K = (dotN fm A J % K + dotN fm B J % K) % K
  | 0, _ => by simp [dotN]
  | J + 1, h => by
    have ih := dot_add (fm := fm) (J := J) (fun j hj => h j (by omega))
    have hj := h J (by omega)
    unfold dotN
    rw [← Nat.add_mod] at ih
    have e1 : ((symN A J + symN B J) % K * fm J) % K = ((symN A J + symN B J) * fm J) % K := by rw [Nat.mul_mod, Nat.mod_mod, ← Nat.mul_mod]
    rw [hj, ← Nat.add_mod, Nat.add_mod (dotN fm C J), ih, e1, ← Nat.add_mod]
    congr 1
    rw [Nat.add_mul]
    omega
/-- the table of a sum -/
def sumT (K L S : Nat) (fm : Nat → Nat) (J : Nat) : List Int := (List.range S).map fun i => ((dotN fm (digW K L i) J % K : Nat) : Int)
theorem sumT_length (K L S : Nat) (fm : Nat → Nat) (J : Nat) : (sumT K L S fm J).length = S := by unfold sumT; simp
theorem sumT_get {K L S : Nat} {fm : Nat → Nat} {J i : Nat} (h : i < S) : (sumT K L S fm J)[i]? = some ((dotN fm (digW K L i) J % K : Nat) : Int) := by
  unfold sumT
  rw [List.getElem?_map, List.getElem?_range h]; rfl
theorem sumT_ok {K L S : Nat} {fm : Nat → Nat} {J : Nat} (hk : 1 ≤ K) : okW K (sumT K L S fm J) := fun x hx => by
  unfold sumT at hx
  obtain ⟨i, _, rfl⟩ := List.mem_map.1 hx
  have : dotN fm (digW K L i) J % K < K := Nat.mod_lt _ hk
  omega
theorem sumT_ent {K R : Nat} {fm : Nat → Nat} {J : Nat} (hk : 1 ≤ K) {X : List Int} (ho : okW K X) (hl : X.length = 2 * R + 1) : ent (sumT K (2 * R + 1) (K ^ (2 * R + 1)) fm J) (valW K X) = ((dotN fm X J % K : Nat) : Int) := by
  have hlt := valW_lt ho
  rw [hl] at hlt
  have h1 := ent_get (t := sumT K (2 * R + 1) (K ^ (2 * R + 1)) fm J) (i := valW K X) (by rw [sumT_length]; exact hlt)
  have hd := digW_of hk ho
  rw [hl] at hd
  rw [sumT_get hlt, hd] at h1
  exact (Option.some.inj h1).symm
theorem symN_win {w : List Int} {i n j : Nat} (h : j < n) : symN (win w i n) j = symN w (i + j) := by
  unfold symN win
  congr 1
  rw [List.getD_eq_getElem?_getD, List.getD_eq_getElem?_getD, List.getElem?_take, if_pos h, List.getElem?_drop]
/-- images of sums are sums of images -/
theorem img_sum {K R : Nat} {fm : Nat → Nat} {J : Nat} (hk : 1 ≤ K) (hJ : J ≤ 2 * R + 1) {a b c : List Int} (ha : okW K a) (hb : okW K b) (hc : okW K c) (hab : a.length = c.length) (hbc : b.length = c.length) (h : ∀ j, symN c j = (symN a j + symN b j) % K) {i : Nat} (hi : i < c.length - 2 * R) :
    ∃ x y z : Nat, (imgW K R (sumT K (2 * R + 1) (K ^ (2 * R + 1)) fm J) a)[i]? = some (x : Int) ∧ (imgW K R (sumT K (2 * R + 1) (K ^ (2 * R + 1)) fm J) b)[i]? = some (y : Int) ∧ (imgW K R (sumT K (2 * R + 1) (K ^ (2 * R + 1)) fm J) c)[i]? = some (z : Int) ∧ x < K ∧ y < K ∧ z = (x + y) % K := by
  refine ⟨dotN fm (win a i (2 * R + 1)) J % K, dotN fm (win b i (2 * R + 1)) J % K, dotN fm (win c i (2 * R + 1)) J % K, ?_, ?_, ?_, Nat.mod_lt _ hk, Nat.mod_lt _ hk, ?_⟩
  · rw [imgW_get (by omega), sumT_ent hk (win_ok ha _ _) (win_length (by omega))]
  · rw [imgW_get (by omega), sumT_ent hk (win_ok hb _ _) (win_length (by omega))]
  · rw [imgW_get (by omega), sumT_ent hk (win_ok hc _ _) (win_length (by omega))]
  · refine dot_add (fun j hj => ?_)
    rw [symN_win (by omega), symN_win (by omega), symN_win (by omega)]
    exact h (i + j)
end Go.Proofs.YtmienemnjikgdaaDoor.RuleM
end
section
namespace Go.Proofs.YtmienemnjikgdaaDoor.RuleM
open WordM
/-! ### a table by a function on windows -/
def tabN (S : Nat) (G : Nat → Int) : List Int := (List.range S).map G
theorem tabN_length (S : Nat) (G : Nat → Int) : (tabN S G).length = S := by unfold tabN; simp
theorem tabN_get {S : Nat} {G : Nat → Int} {i : Nat} (h : i < S) : (tabN S G)[i]? = some (G i) := by
  unfold tabN
  rw [List.getElem?_map, List.getElem?_range h]; rfl
theorem tabN_ent {S : Nat} {G : Nat → Int} {i : Nat} (h : i < S) : ent (tabN S G) i = G i := by
  have h1 := ent_get (t := tabN S G) (i := i) (by rw [tabN_length]; exact h)
  rw [tabN_get h] at h1
  exact (Option.some.inj h1).symm
theorem tabN_succ (S : Nat) (G : Nat → Int) : tabN (S + 1) G = tabN S G ++ [G S] := by
  unfold tabN
  rw [List.range_succ, List.map_append]; rfl
theorem tabN_ext {S : Nat} {G H : Nat → Int} (h : ∀ i, i < S → G i = H i) : tabN S G = tabN S H := by
  unfold tabN
  exact List.map_congr_left fun i hi => h i (List.mem_range.1 hi)
theorem tabN_self {S : Nat} {t : List Int} (h : t.length = S) : tabN S (ent t) = t := by
  apply List.ext_getElem?
  intro i
  by_cases hi : i < S
  · rw [tabN_get hi, ent_get (by omega)]
  · rw [List.getElem?_eq_none (by rw [tabN_length]; omega), List.getElem?_eq_none (by omega)]
theorem tabN_ok {S k : Nat} {G : Nat → Int} (h : ∀ i, i < S → 0 ≤ G i ∧ G i < (k : Int)) : okW k (tabN S G) := fun x hx => by
  unfold tabN at hx
  obtain ⟨i, hi, rfl⟩ := List.mem_map.1 hx
  exact h i (List.mem_range.1 hi)
theorem tabN_okR {k r : Nat} {G : Nat → Int} (h1 : 1 ≤ k) (h4 : k ≤ 4) (h3 : r ≤ 3) (h : ∀ i, i < k ^ (2 * r + 1) → 0 ≤ G i ∧ G i < (k : Int)) : OkR k r (tabN (k ^ (2 * r + 1)) G) :=
  ⟨h1, h4, h3, tabN_length _ _, tabN_ok h⟩

/-! ### digits -/
theorem digW_app (k : Nat) : ∀ (m n x : Nat), digW k (n + m) x = digW k n (x / k ^ m) ++ digW k m x
  | 0, n, x => by simp [digW]
  | m + 1, n, x => by
    rw [← Nat.add_assoc]
    show digW k (n + m) (x / k) ++ [((x % k : Nat) : Int)] = digW k n (x / k ^ (m + 1)) ++ (digW k m (x / k) ++ [((x % k : Nat) : Int)])
    rw [digW_app k m n (x / k), Nat.div_div_eq_div_mul, ← List.append_assoc, Nat.pow_succ, Nat.mul_comm k]
theorem digW_mod (k : Nat) : ∀ (n x : Nat), digW k n (x % k ^ n) = digW k n x
  | 0, x => rfl
  | n + 1, x => by
    unfold digW
    rw [Nat.pow_succ, Nat.mod_mul_left_div_self, digW_mod k n (x / k), Nat.mod_mul_left_mod]
theorem digW_valmod {k : Nat} (hk : 1 ≤ k) (n x : Nat) : valW k (digW k n x) = x % k ^ n := by
  rw [← digW_mod, digW_val hk n _ (Nat.mod_lt _ (Nat.pow_pos hk))]
/-- the digits of a word's number -/
theorem digW_of' {k n : Nat} (hk : 1 ≤ k) {X : List Int} (h : okW k X) (hn : X.length = n) : digW k n (valW k X) = X := by subst hn; exact digW_of hk h
/-- a window of digits -/
theorem win_dig {k : Nat} (a n b x : Nat) : win (digW k (a + n + b) x) a n = digW k n (x / k ^ b) := by
  unfold win
  rw [digW_app, digW_app, List.append_assoc, List.drop_append_of_le_length (by rw [digW_length]; exact Nat.le_refl _), List.drop_of_length_le (by rw [digW_length]; exact Nat.le_refl _), List.nil_append, List.take_append_of_le_length (by rw [digW_length]; exact Nat.le_refl _), List.take_of_length_le (by rw [digW_length]; exact Nat.le_refl _)]
theorem win_val {k : Nat} (hk : 1 ≤ k) (a n b x : Nat) : valW k (win (digW k (a + n + b) x) a n) = x / k ^ b % k ^ n := by
  rw [win_dig, digW_valmod hk]

/-! ### an image of one window; a table is told by its images -/
theorem img_one {k r : Nat} {t X : List Int} (h : X.length = 2 * r + 1) : imgW k r t X = [ent t (valW k X)] := by
  unfold imgW
  rw [h, show 2 * r + 1 - 2 * r = 1 by omega]
  show [ent t (valW k (win X 0 (2 * r + 1)))] = _
  rw [← h, win_all]
theorem table_ext {k r : Nat} {t u : List Int} (ht : OkR k r t) (hu : OkR k r u) (h : ∀ X : List Int, okW k X → X.length = 2 * r + 1 → imgW k r t X = imgW k r u X) : t = u := by
  rw [← tabN_self ht.len, ← tabN_self hu.len]
  refine tabN_ext fun i hi => ?_
  have := h (digW k (2 * r + 1) i) (digW_ok ht.k1 _ _) (digW_length _ _ _)
  rw [img_one (digW_length _ _ _), img_one (digW_length _ _ _), digW_val ht.k1 _ _ hi] at this
  exact List.cons.inj this |>.1
theorem img_ext {k r : Nat} {t u w : List Int} (hw : okW k w) (h : ∀ X : List Int, okW k X → X.length = 2 * r + 1 → ent t (valW k X) = ent u (valW k X)) : imgW k r t w = imgW k r u w := by
  unfold imgW
  refine List.map_congr_left fun i hi => ?_
  have := List.mem_range.1 hi
  exact h _ (win_ok hw _ _) (win_length (by omega))

/-! ### the rule of the mirror -/
def mirT (k r : Nat) (t : List Int) : List Int := tabN (k ^ (2 * r + 1)) fun i => ent t (valW k (digW k (2 * r + 1) i).reverse)
theorem rev_lt {k n : Nat} (hk : 1 ≤ k) (i : Nat) : valW k (digW k n i).reverse < k ^ n := by
  have := valW_lt (okW_rev (digW_ok hk n i))
  rwa [List.length_reverse, digW_length] at this
theorem mirT_ok {k r : Nat} {t : List Int} (h : OkR k r t) : OkR k r (mirT k r t) :=
  tabN_okR h.k1 h.k4 h.r3 fun i _ => ent_ok h.ok (by rw [h.len]; exact rev_lt h.k1 i)
theorem mirT_ent {k r : Nat} {t X : List Int} (hk : 1 ≤ k) (ho : okW k X) (hl : X.length = 2 * r + 1) : ent (mirT k r t) (valW k X) = ent t (valW k X.reverse) := by
  have hlt := valW_lt ho
  rw [hl] at hlt
  unfold mirT
  rw [tabN_ent hlt, digW_of' hk ho hl]
theorem win_rev {w : List Int} {i n : Nat} (h : i + n ≤ w.length) : win w.reverse i n = (win w (w.length - n - i) n).reverse := by
  unfold win
  apply List.ext_getElem?
  intro j
  by_cases hj : j < n
  · rw [List.getElem?_take, if_pos hj, List.getElem?_drop, List.getElem?_reverse (by omega), List.getElem?_reverse (by rw [List.length_take, List.length_drop]; omega), List.getElem?_take, List.length_take, List.length_drop, if_pos (by omega), List.getElem?_drop]
    congr 1
    omega
  · rw [List.getElem?_eq_none (by rw [List.length_take, List.length_drop, List.length_reverse]; omega), List.getElem?_eq_none (by rw [List.length_reverse, List.length_take, List.length_drop]; omega)]
theorem img_mir {k r : Nat} {t w : List Int} (h : OkR k r t) (hw : okW k w) : imgW k r (mirT k r t) w.reverse = (imgW k r t w).reverse := by
  apply List.ext_getElem?
  intro i
  by_cases hi : i < w.length - 2 * r
  · rw [imgW_get (by rw [List.length_reverse]; exact hi), List.getElem?_reverse (by rw [imgW_length]; exact hi), imgW_length, imgW_get (by omega), mirT_ent h.k1 (win_ok (okW_rev hw) _ _) (win_length (by rw [List.length_reverse]; omega)), win_rev (by omega), List.reverse_reverse]
    congr 4
  · rw [List.getElem?_eq_none (by rw [imgW_length, List.length_reverse]; omega), List.getElem?_eq_none (by rw [List.length_reverse, imgW_length]; omega)]
theorem mir_mir {k r : Nat} {t : List Int} (h : OkR k r t) : mirT k r (mirT k r t) = t :=
  table_ext (mirT_ok (mirT_ok h)) h fun X hX hl => by
    rw [img_one hl, img_one hl, mirT_ent h.k1 hX hl, mirT_ent h.k1 (okW_rev hX) (by rw [List.length_reverse]; exact hl), List.reverse_reverse]

/-! ### other names -/
/-- p is a permutation of k symbols, q the one back -/
structure PermR (k : Nat) (p q : List Int) : Prop where
  lp : p.length = k
  lq : q.length = k
  op : okW k p
  oq : okW k q
  pq : ∀ x : Nat, x < k → ent p (ent q x).toNat = x
  qp : ∀ x : Nat, x < k → ent q (ent p x).toNat = x
def nmW (p X : List Int) : List Int := X.map fun x => ent p x.toNat
theorem nmW_length (p X : List Int) : (nmW p X).length = X.length := by unfold nmW; simp
theorem nmW_ok {k : Nat} {p X : List Int} (hp : okW k p) (hl : p.length = k) (hX : okW k X) : okW k (nmW p X) := fun y hy => by
  unfold nmW at hy
  obtain ⟨x, hx, rfl⟩ := List.mem_map.1 hy
  have := hX x hx
  exact ent_ok hp (by omega)
theorem nmW_back {k : Nat} {p q X : List Int} (h : PermR k p q) (hX : okW k X) : nmW p (nmW q X) = X := by
  unfold nmW
  rw [List.map_map]
  have : ∀ x ∈ X, ((fun x => ent p x.toNat) ∘ fun x => ent q x.toNat) x = x := fun x hx => by
    have h0 := hX x hx
    show ent p (ent q x.toNat).toNat = x
    have := h.pq x.toNat (by omega)
    rw [this]; omega
  rw [List.map_congr_left this, List.map_id']
theorem PermR.swap {k : Nat} {p q : List Int} (h : PermR k p q) : PermR k q p := ⟨h.lq, h.lp, h.oq, h.op, h.qp, h.pq⟩
def renT (k r : Nat) (t p q : List Int) : List Int := tabN (k ^ (2 * r + 1)) fun i => ent p (ent t (valW k (nmW q (digW k (2 * r + 1) i)))).toNat
theorem nm_lt {k n : Nat} {q : List Int} (hk : 1 ≤ k) (hq : okW k q) (hl : q.length = k) (i : Nat) : valW k (nmW q (digW k n i)) < k ^ n := by
  have := valW_lt (nmW_ok hq hl (digW_ok hk n i))
  rwa [nmW_length, digW_length] at this
theorem renT_ok {k r : Nat} {t p q : List Int} (h : OkR k r t) (hp : PermR k p q) : OkR k r (renT k r t p q) :=
  tabN_okR h.k1 h.k4 h.r3 fun i _ => by
    have := ent_ok h.ok (i := valW k (nmW q (digW k (2 * r + 1) i))) (by rw [h.len]; exact nm_lt h.k1 hp.oq hp.lq i)
    exact ent_ok hp.op (by rw [hp.lp]; omega)
theorem renT_ent {k r : Nat} {t p q X : List Int} (hk : 1 ≤ k) (ho : okW k X) (hl : X.length = 2 * r + 1) : ent (renT k r t p q) (valW k X) = ent p (ent t (valW k (nmW q X))).toNat := by
  have hlt := valW_lt ho
  rw [hl] at hlt
  unfold renT
  rw [tabN_ent hlt, digW_of' hk ho hl]
theorem win_nm (p w : List Int) (i n : Nat) : win (nmW p w) i n = nmW p (win w i n) := by
  unfold win nmW
  rw [List.map_take, List.map_drop]
theorem img_ren {k r : Nat} {t p q w : List Int} (h : OkR k r t) (hp : PermR k p q) (hw : okW k w) : imgW k r (renT k r t p q) (nmW p w) = nmW p (imgW k r t w) := by
  apply List.ext_getElem?
  intro i
  by_cases hi : i < w.length - 2 * r
  · rw [imgW_get (by rw [nmW_length]; exact hi), renT_ent h.k1 (win_ok (nmW_ok hp.op hp.lp hw) _ _) (win_length (by rw [nmW_length]; omega)), win_nm, nmW_back hp.swap (win_ok hw _ _)]
    show _ = (nmW p (imgW k r t w))[i]?
    unfold nmW
    rw [List.getElem?_map, imgW_get hi]; rfl
  · rw [List.getElem?_eq_none (by rw [imgW_length, nmW_length]; omega), List.getElem?_eq_none (by rw [nmW_length, imgW_length]; omega)]
theorem ren_ren {k r : Nat} {t p q : List Int} (h : OkR k r t) (hp : PermR k p q) : renT k r (renT k r t p q) q p = t :=
  table_ext (renT_ok (renT_ok h hp) hp.swap) h fun X hX hl => by
    have hnl : (nmW p X).length = 2 * r + 1 := by rw [nmW_length]; exact hl
    have hno := nmW_ok hp.op hp.lp hX
    have hlt := valW_lt hX
    rw [hl] at hlt
    have he := ent_ok h.ok (i := valW k X) (by rw [h.len]; exact hlt)
    rw [img_one hl, img_one hl, renT_ent h.k1 hX hl, renT_ent h.k1 hno hnl, nmW_back hp.swap hX]
    have := hp.qp (ent t (valW k X)).toNat (by omega)
    rw [this]
    congr 1
    omega

/-! ### wider -/
def widT (k r : Nat) (t : List Int) (R : Nat) : List Int := tabN (k ^ (2 * R + 1)) fun i => ent t (i / k ^ (R - r) % k ^ (2 * r + 1))
theorem widT_ok {k r R : Nat} {t : List Int} (h : OkR k r t) (h3 : R ≤ 3) : OkR k R (widT k r t R) :=
  tabN_okR h.k1 h.k4 h3 fun i _ => ent_ok h.ok (by rw [h.len]; exact Nat.mod_lt _ (Nat.pow_pos h.k1))
theorem widT_ent {k r R : Nat} {t X : List Int} (hk : 1 ≤ k) (hr : r ≤ R) (ho : okW k X) (hl : X.length = 2 * R + 1) : ent (widT k r t R) (valW k X) = ent t (valW k (win X (R - r) (2 * r + 1))) := by
  have hlt := valW_lt ho
  rw [hl] at hlt
  unfold widT
  rw [tabN_ent hlt]
  have := win_val hk (R - r) (2 * r + 1) (R - r) (valW k X)
  rw [show R - r + (2 * r + 1) + (R - r) = 2 * R + 1 by omega, digW_of' hk ho hl] at this
  rw [this]
theorem img_wid {k r R : Nat} {t w : List Int} (h : OkR k r t) (hr : r ≤ R) (hw : okW k w) : imgW k R (widT k r t R) w = win (imgW k r t w) (R - r) (w.length - 2 * R) := by
  apply List.ext_getElem?
  intro i
  by_cases hi : i < w.length - 2 * R
  · rw [imgW_get hi, widT_ent h.k1 hr (win_ok hw _ _) (win_length (by omega))]
    unfold win
    rw [List.getElem?_take, if_pos hi, List.getElem?_drop, imgW_get (by omega)]
    have := win_piece w i (2 * R + 1) (R - r) (2 * r + 1) (by omega)
    unfold win at this ⊢
    rw [this, Nat.add_comm i]
  · rw [List.getElem?_eq_none (by rw [imgW_length]; omega), List.getElem?_eq_none (by unfold win; rw [List.length_take]; omega)]
theorem wid_self {k r : Nat} {t : List Int} (h : OkR k r t) : widT k r t r = t :=
  table_ext (widT_ok h h.r3) h fun X hX hl => by
    rw [img_one hl, img_one hl, widT_ent h.k1 (Nat.le_refl _) hX hl, Nat.sub_self, ← hl, win_all]
theorem wid_wid {k r s R : Nat} {t : List Int} (h : OkR k r t) (hr : r ≤ s) (hs : s ≤ R) (h3 : R ≤ 3) : widT k s (widT k r t s) R = widT k r t R :=
  table_ext (widT_ok (widT_ok h (by omega)) h3) (widT_ok h h3) fun X hX hl => by
    rw [img_one hl, img_one hl, widT_ent h.k1 hs hX hl, widT_ent h.k1 hr (win_ok hX _ _) (win_length (by omega)), widT_ent h.k1 (by omega) hX hl]
    have := win_piece X (R - s) (2 * s + 1) (s - r) (2 * r + 1) (by omega)
    rw [show R - s + (s - r) = R - r by omega] at this
    unfold win at this ⊢
    rw [this]
/-- a word of which X is the middle -/
def midW (X : List Int) (d : Nat) : List Int := List.replicate d 0 ++ X ++ List.replicate d 0
theorem midW_length (X : List Int) (d : Nat) : (midW X d).length = d + X.length + d := by unfold midW; simp; omega
theorem midW_ok {k : Nat} {X : List Int} (hk : 1 ≤ k) (h : okW k X) (d : Nat) : okW k (midW X d) :=
  okW_app (okW_app (okW_rep ⟨by omega, by omega⟩ _) h) (okW_rep ⟨by omega, by omega⟩ _)
theorem midW_win (X : List Int) (d n : Nat) (hn : X.length = n) : win (midW X d) d n = X := by
  subst hn
  unfold win midW
  rw [List.append_assoc, List.drop_append_of_le_length (by simp), List.drop_of_length_le (by simp), List.nil_append, List.take_append_of_le_length (by simp), List.take_of_length_le (by simp)]
theorem wid_inj {k r R : Nat} {t u : List Int} (h : OkR k r t) (g : OkR k r u) (hr : r ≤ R) (e : widT k r t R = widT k r u R) : t = u :=
  table_ext h g fun X hX hl => by
    have h1 := widT_ent (t := t) (R := R) h.k1 hr (midW_ok h.k1 hX (R - r)) (by rw [midW_length]; omega)
    have h2 := widT_ent (t := u) (R := R) h.k1 hr (midW_ok h.k1 hX (R - r)) (by rw [midW_length]; omega)
    rw [midW_win _ _ _ hl] at h1 h2
    rw [img_one hl, img_one hl, ← h1, ← h2, e]

/-! ### the narrow form -/
structure NarR (k r : Nat) (t : List Int) (s : Nat) (u : List Int) : Prop where
  ok : OkR k s u
  le : s ≤ r
  wid : widT k s u r = t
  least : ∀ (s' : Nat) (u' : List Int), s' < s → OkR k s' u' → widT k s' u' r ≠ t
theorem NarR.unique {k r s s' : Nat} {t u u' : List Int} (h : NarR k r t s u) (g : NarR k r t s' u') : s = s' ∧ u = u' := by
  have : s = s' := by
    rcases Nat.lt_trichotomy s s' with h1 | h1 | h1
    · exact absurd h.wid (g.least _ _ h1 h.ok)
    · exact h1
    · exact absurd g.wid (h.least _ _ h1 g.ok)
  subst this
  exact ⟨rfl, wid_inj h.ok g.ok h.le (by rw [h.wid, g.wid])⟩
/-- what is narrow of the wide form is narrow of the rule -/
theorem NarR.of_wid {k r R s : Nat} {t u : List Int} (ht : OkR k r t) (hr : r ≤ R) (h3 : R ≤ 3) (h : NarR k R (widT k r t R) s u) : NarR k r t s u := by
  have hs : s ≤ r := by
    rcases Nat.lt_or_ge r s with h1 | h1
    · exact absurd rfl (h.least r t h1 ht)
    · exact h1
  refine ⟨h.ok, hs, ?_, fun s' u' hs' hu' e => ?_⟩
  · exact wid_inj (widT_ok h.ok ht.r3) ht hr (by rw [wid_wid h.ok hs hr h3, h.wid])
  · refine h.least s' u' hs' hu' ?_
    rw [← wid_wid hu' (by omega) hr h3, e]
theorem NarR.to_wid {k r R s : Nat} {t u : List Int} (ht : OkR k r t) (hr : r ≤ R) (h3 : R ≤ 3) (h : NarR k r t s u) : NarR k R (widT k r t R) s u := by
  refine ⟨h.ok, by have := h.le; omega, ?_, fun s' u' hs' hu' e => ?_⟩
  · rw [← wid_wid h.ok h.le hr h3, h.wid]
  · refine h.least s' u' hs' hu' ?_
    have := h.le
    exact wid_inj (widT_ok hu' ht.r3) ht hr (by rw [wid_wid hu' (by omega) hr h3, e])
theorem NarR.self {k r s : Nat} {t u : List Int} (hr : r ≤ 3) (h : NarR k r t s u) : NarR k s u s u := by
  refine ⟨h.ok, Nat.le_refl _, wid_self h.ok, fun s' u' hs' hu' e => ?_⟩
  refine h.least s' u' hs' hu' ?_
  rw [← wid_wid hu' (by omega) h.le hr, e, h.wid]
/-- the same map: at the greater radius -/
theorem same_iff {k r r' s s' : Nat} {t t' u u' : List Int} (ht : OkR k r t) (ht' : OkR k r' t') (h : NarR k r t s u) (h' : NarR k r' t' s' u') :
    (s = s' ∧ u = u') ↔ widT k r t (max r r') = widT k r' t' (max r r') := by
  have h3 : max r r' ≤ 3 := by have := ht.r3; have := ht'.r3; omega
  have hN := h.to_wid ht (R := max r r') (by omega) h3
  have hN' := h'.to_wid ht' (R := max r r') (by omega) h3
  constructor
  · rintro ⟨rfl, rfl⟩
    rw [← hN.wid, ← hN'.wid]
  · intro e
    rw [← e] at hN'
    exact hN.unique hN'
/-- the inner table of a table: what stands at 0 w 0 -/
def innT (k R : Nat) (t : List Int) : List Int := tabN (k ^ (2 * R + 1)) fun i => ent t (i * k)
theorem innT_ok {k R : Nat} {t : List Int} (h : OkR k (R + 1) t) : OkR k R (innT k R t) :=
  tabN_okR h.k1 h.k4 (by have := h.r3; omega) fun i hi => ent_ok h.ok (by
    rw [h.len, show 2 * (R + 1) + 1 = (2 * R + 1) + 1 + 1 by omega, Nat.pow_succ, Nat.pow_succ]
    have h1 : i * k < k ^ (2 * R + 1) * k := Nat.mul_lt_mul_of_pos_right hi h.k1
    exact Nat.lt_of_lt_of_le h1 (Nat.le_mul_of_pos_right _ h.k1))
theorem inn_wid {k R : Nat} {u : List Int} (h : OkR k R u) : innT k R (widT k R u (R + 1)) = u := by
  rw [← tabN_self h.len]
  unfold innT
  refine tabN_ext fun i hi => ?_
  have hk := h.k1
  have h1 : i * k < k ^ (2 * (R + 1) + 1) := by
    rw [show 2 * (R + 1) + 1 = (2 * R + 1) + 1 + 1 by omega, Nat.pow_succ, Nat.pow_succ]
    exact Nat.lt_of_lt_of_le (Nat.mul_lt_mul_of_pos_right hi hk) (Nat.le_mul_of_pos_right _ hk)
  rw [tabN_self h.len]
  unfold widT
  rw [tabN_ent h1, show R + 1 - R = 1 by omega, Nat.pow_one, Nat.mul_div_cancel _ hk, Nat.mod_eq_of_lt hi]
/-- where the inner table does not tell, nothing narrower does -/
theorem nar_stop {k R : Nat} {t : List Int} (h : OkR k (R + 1) t) (hne : widT k R (innT k R t) (R + 1) ≠ t) : NarR k (R + 1) t (R + 1) t := by
  refine ⟨h, Nat.le_refl _, wid_self h, fun s' u' hs' hu' e => hne ?_⟩
  have h3 := h.r3
  have e2 := wid_wid hu' (s := R) (R := R + 1) (by omega) (by omega) h3
  rw [e] at e2
  have := inn_wid (widT_ok hu' (R := R) (by omega))
  rw [e2] at this
  rw [this, e2]
theorem nar_zero {k : Nat} {t : List Int} (h : OkR k 0 t) : NarR k 0 t 0 t := ⟨h, Nat.le_refl _, wid_self h, fun s' _ hs' => absurd hs' (by omega)⟩
theorem nar_step {k r R s : Nat} {t u v : List Int} (hv : OkR k R v) (hR : R ≤ r) (h3 : r ≤ 3) (hw : widT k R v r = t) (h : NarR k R v s u) : NarR k r t s u := by
  rw [← hw]
  exact h.to_wid hv hR h3
end Go.Proofs.YtmienemnjikgdaaDoor.RuleM
end
