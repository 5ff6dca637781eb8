/- plays of edenlaw03 of words in memory.
plays of edenlaw03: all eight kinds, over an op.
What the rows' lists of package-level variables give the walks: api's twelve errors and errors' own handle; and one world that meets the lists.
How a law's row is closed from its walk: where the law answers true and only new memory was written, each argument reads as it did.
An argument that is a list of limbs, opened: it reads a list of numbers below 2^32.
What the statements of layer 3 share: lists that are known, awake.
WordAll's argument, a slice of ops: an op's cells opened.
WordAll's argument, a slice of ops, opened to its cells.
The calls of package nat over a list of numbers that are known: what each call adds to the list.
edenraw.LentNat, KeptNat and CopyNat, by contracts.
edenraw.Apart: lists that each lie in a block of their own are found apart; nothing below changes.
edenraw.Apart, second part: its walk.
What the statements on new memory share: lists that were lent, lists that were made, one behind the other; edenraw.Apart over them. -/
import Derived.Test.YtfgoflaeclfggaaGreatDoorB5
import Derived.Test.YtfgoflaeclfggaaGreatDoorCards
import Derived.Test.YtfgoflaeclfggaaGreatDoorTie
import Derived.Test.YtfgoflaeclfggaaGreatDoorB1
import Derived.ProofKit
import Derived.OpenShut
import Derived.Deep.DeepHandedRow
import Derived.Deep.DeepWitnessRowRef
import Derived.LaidHandle
import Derived.LaidLaws
import Derived.Stop.LaidErr
import Derived.Carry
import Derived.SliceStrings
import Derived.ChangeSlices
import Derived.Test.YtfgoflaeclfggaaGreatDoorB3
import Derived.Deep.Slices
import Derived.ChangeSame
import Derived.Test.YtfgoflaeclfggaaGreatDoorB2
import Derived.Laws.CopyOwn
import Derived.Laws.AppendOwnNone
import Derived.Test.YtfgoflaeclfggaaGreatDoorProg
import Derived.WalkKit
import Derived.WalkSmall
import Derived.Deep.LoopGhost
import Derived.Lib.Hide
import Derived.Outline
import Derived.Laws.AppendOwn
import Derived.Laws.MakeOwn
import Derived.Laws.Rows
import Derived.Maps.AppendAt
import Derived.ArgAppend
import Derived.Deep.DeepAppendRoom
import Derived.OwnWalk
section
namespace Go.Proofs.YtfgoflaeclfggaaGreatDoor
open Go.RowKit Go.Extern.Stop Go.Stop Go.Extern WordM NatM

theorem progN_ok {A : Nat → Addr} {N : Nat} {w w' : World} {e : Ending} (h : NumOk w N e w') : ProgP A none (IsN (D32 N)) w e w' := by
  obtain ⟨p, c, he, ho, hb⟩ := h
  exact ⟨_, _, he, ⟨p, c, rfl, ho.toV⟩, rfl, hb⟩
theorem refN_ok {N : Nat} {w w' : World} {e : Ending} (h : RefOk2 w N e w') : RefP none (IsN (D32 N)) w e w' := by
  obtain ⟨p, c, he, ho, hb⟩ := h
  exact ⟨_, 0, none, none, 0, he, ⟨p, c, rfl, ho.toV⟩, ⟨rfl, rfl, rfl, rfl⟩, hb⟩
theorem progS_ok {A : Nat → Addr} {t : ByteArray} {w w' : World} {e : Ending} (h : StrOk w t e w') : ProgP A none (IsS t) w e w' := ⟨_, _, h.1, rfl, rfl, h.2⟩
theorem refS_ok {t : ByteArray} {w w' : World} {e : Ending} (h : RefStr w t e w') : RefP none (IsS t) w e w' := ⟨_, 0, none, none, 0, h.1, rfl, ⟨rfl, rfl, rfl, rfl⟩, h.2⟩
theorem badW_num {i : Int} {m : Nat} (h : 1 ≤ m ∧ m ≤ 11) : ∀ y, badW i m = some y → 1 ≤ y.2 ∧ y.2 ≤ 11 := fun y hy => by
  have e := Option.some.inj hy
  rw [← e]; exact h
theorem none_num : ∀ y : List (ByteArray × Int) × Nat, (none : OErr) = some y → 1 ≤ y.2 ∧ y.2 ≤ 11 := fun _ hy => by cases hy
theorem code6_num {m : Nat} (h : 1 ≤ m ∧ m ≤ 11) : 1 ≤ code6 m ∧ code6 m ≤ 11 := by unfold code6; split <;> omega
open Classical in
/-- the word behind l, where there is one -/
noncomputable def nextOf (k : Nat) (l : List Int) : List Int := if h : ∃ x, IsNext k l x then h.choose else []
theorem nextOf_eq {k : Nat} {l x : List Int} (hk : 1 ≤ k) (ho : okW k l) (h : IsNext k l x) : x = nextOf k l := by
  have he : ∃ x, IsNext k l x := ⟨x, h⟩
  unfold nextOf
  rw [dif_pos he]
  exact isNext_unique hk ho h he.choose_spec
open Classical in
/-- the word of n symbols with the number i -/
noncomputable def wordOf (k n i : Nat) : List Int := if h : ∃ x : List Int, x.length = n ∧ okW k x ∧ valW k x = i then h.choose else []
theorem wordOf_eq {k n i : Nat} {x : List Int} (h1 : x.length = n) (h2 : okW k x) (h3 : valW k x = i) : x = wordOf k n i := by
  have he : ∃ x : List Int, x.length = n ∧ okW k x ∧ valW k x = i := ⟨x, h1, h2, h3⟩
  unfold wordOf
  rw [dif_pos he]
  have hs := he.choose_spec
  exact valW_inj (by rw [h1, hs.1]) h2 hs.2.1 (by rw [h3, hs.2.2])
theorem playsC_0 (k K N : Int) (p q r : Option Addr) (n c m d f : Nat) (b : List Nat) (s : ByteArray) (l : List Int) (w : World) (A : Nat → Addr) (hr : Roots w A) (hT : TypeVar w) (hn : n = l.length) (hv : IntV w.heap.size w p c l) (hk : kind8 k = 0) :
    Calls Tryz.prog 8 #[.agg #[.int .i64 k, .int .i64 K, .int .i64 N, .slice p n c, .slice q m d, .slice r b.length f, .string s]] w (Tells (.bool true) w) := by
  cases hc : chkW K l with
  | some im =>
    obtain ⟨i, j⟩ := im
    exact playsW_0 k K N p q r n c m d f b s (badW i j) w A hr hT (badW_num (chkW_num hc)) (fun W hb => (check_bad K p n c l W A (hr.below hb) hn (hv.next hb) i j hc).mono fun _ _ ⟨b', he, hl', hb'⟩ => ⟨_, he, ⟨b', rfl, Chn.one hl'⟩, hb'⟩) (fun W hb => (check_ref_bad K p n c l W hn (hv.next hb) i j hc).mono fun _ _ ⟨v, he, g, g', hv', _, hw', hb'⟩ => ⟨(j : Int), some ⟨g, 0, none⟩, some ⟨g', 0, none⟩, 1, by rw [he, hv'], ⟨rfl, rfl, hw'⟩, hb'⟩) hk
  | none =>
    exact playsW_0 k K N p q r n c m d f b s none w A hr hT none_num (fun W hb => (check_ok K p n c l W hn (hv.next hb) hc).mono fun _ _ h => ⟨_, h.1, rfl, h.2⟩) (fun W hb => (check_ref_ok K p n c l W hn (hv.next hb) hc).mono fun _ _ h => ⟨0, none, none, 0, h.1, ⟨rfl, rfl, rfl, rfl⟩, h.2⟩) hk
theorem playsC_2 (k K N : Int) (p q r : Option Addr) (n c m d f : Nat) (b : List Nat) (s : ByteArray) (l : List Int) (w : World) (A : Nat → Addr) (hr : Roots w A) (hT : TypeVar w) (hn : n = l.length) (hv : IntV w.heap.size w p c l) (hl : n ≤ 17592186043904) (hk : kind8 k = 2) :
    Calls Tryz.prog 8 #[.agg #[.int .i64 k, .int .i64 K, .int .i64 N, .slice p n c, .slice q m d, .slice r b.length f, .string s]] w (Tells (.bool true) w) := by
  cases hc : chkW K l with
  | some im =>
    obtain ⟨i, j⟩ := im
    exact playsW_2 k K N p q r n c m d f b s [] (badW i j) w A hr hT (badW_num (chkW_num hc)) (fun W hb => ((index_bad K p n c l W A (hr.below hb) hn (hv.next hb) i j hc).mono fun _ _ h => progP_bad (IsN.nil _) h) ) (fun W hb => ((index_ref_bad K p n c l W hn (hv.next hb) i j hc).mono fun _ _ h => refP_bad (IsN.nil _) h)) hk
  | none =>
    by_cases h256 : 256 < n
    · exact playsW_2 k K N p q r n c m d f b s [] (badW 0 4) w A hr hT (badW_num (by omega)) (fun W hb => ((index_big K p n c l W A (hr.below hb) hn (hv.next hb) hc h256 (by omega)).mono fun _ _ h => progP_bad (IsN.nil _) h) ) (fun W hb => ((index_ref_big K p n c l W hn (hv.next hb) hc h256).mono fun _ _ h => refP_bad (IsN.nil _) h)) hk
    · obtain ⟨k', rfl, _⟩ := chkW_none hc
      exact playsW_2 k _ N p q r n c m d f b s (D32 (valW k' l)) none w A hr hT none_num (fun W hb => (index_ok k' p n c l W hn (hv.next hb) hc (by omega)).mono fun _ _ h => progN_ok h) (fun W hb => (index_ref_ok k' p n c l W hn (hv.next hb) hc (by omega)).mono fun _ _ h => refN_ok h) hk
theorem playsC_4 (k K N : Int) (p q r : Option Addr) (n c m d f : Nat) (b : List Nat) (s : ByteArray) (l : List Int) (w : World) (A : Nat → Addr) (hr : Roots w A) (hT : TypeVar w) (hn : n = l.length) (hv : IntV w.heap.size w p c l) (hk : kind8 k = 4) :
    Calls Tryz.prog 8 #[.agg #[.int .i64 k, .int .i64 K, .int .i64 N, .slice p n c, .slice q m d, .slice r b.length f, .string s]] w (Tells (.bool true) w) := by
  cases hc : chkW K l with
  | some im =>
    obtain ⟨i, j⟩ := im
    exact playsW_4 k K N p q r n c m d f b s ⟨#[]⟩ (badW i j) w A hr hT (badW_num (chkW_num hc)) (fun W hb => ((textW_bad K p n c l W A (hr.below hb) hn (hv.next hb) i j hc).mono fun _ _ h => progP_bad (F := IsS _) rfl h) ) (fun W hb => ((text_ref_bad K p n c l W hn (hv.next hb) i j hc).mono fun _ _ h => refP_bad (F := IsS _) rfl h)) hk
  | none =>
    exact playsW_4 k K N p q r n c m d f b s (txW l) none w A hr hT (none_num) (fun W hb => ((textW_ok K p n c l W hn (hv.next hb) hc).mono fun _ _ h => progS_ok h) ) (fun W hb => ((text_ref_okW K p n c l W hn (hv.next hb) hc).mono fun _ _ h => refS_ok h)) hk
theorem playsC_5 (k K N : Int) (p q r : Option Addr) (n c m d f : Nat) (b : List Nat) (s : ByteArray) (w : World) (A : Nat → Addr) (hr : Roots w A) (hT : TypeVar w) (hs : s.size ≤ maxLen) (hk : kind8 k = 5) :
    Calls Tryz.prog 8 #[.agg #[.int .i64 k, .int .i64 K, .int .i64 N, .slice p n c, .slice q m d, .slice r b.length f, .string s]] w (Tells (.bool true) w) := by
  cases hc : chkW K (sW s) with
  | some im =>
    obtain ⟨i, j⟩ := im
    exact playsW_5 k K N p q r n c m d f b s [] (badW i (code6 j)) w A hr hT (badW_num (code6_num (chkW_num hc))) (fun W hb => ((parseW_bad K s W A (hr.below hb) hs i j hc).mono fun _ _ h => progP_bad (IsI.nil _) h) ) (fun W hb => ((parse_ref_badW K s W hs i j hc).mono fun _ _ h => refP_bad (IsI.nil _) h)) hk
  | none =>
    exact playsW_5 k K N p q r n c m d f b s (sW s) none w A hr hT (none_num) (fun W hb => ((parseW_ok K s W hc).mono fun _ _ h => progI_ok h) ) (fun W hb => ((parse_ref_okW K s W hc).mono fun _ _ h => refI_ok h)) hk
theorem playsC_6 (k K N : Int) (p q r : Option Addr) (n c m d f : Nat) (b : List Nat) (s : ByteArray) (l : List Int) (w : World) (A : Nat → Addr) (hr : Roots w A) (hT : TypeVar w) (hn : n = l.length) (hv : IntV w.heap.size w p c l) (hl : n ≤ 17592186043904) (hNN : N ≤ 9223372036854775807) (hk : kind8 k = 6) :
    Calls Tryz.prog 8 #[.agg #[.int .i64 k, .int .i64 K, .int .i64 N, .slice p n c, .slice q m d, .slice r b.length f, .string s]] w (Tells (.bool true) w) := by
  rcases Int.lt_or_le N 0 with hz | hz
  · exact playsW_6 k K N p q r n c m d f b s [] (badW 0 3) w A hr hT (badW_num (by omega)) (fun W hb => ((times_neg p n c N W A (hr.below hb) hz).mono fun _ _ h => progP_bad (IsI.nil _) h) ) (fun W hb => ((times_ref_neg p n c N W hz).mono fun _ _ h => refP_bad (IsI.nil _) h)) hk
  · obtain ⟨z, rfl⟩ : ∃ z : Nat, N = (z : Int) := ⟨N.toNat, by omega⟩
    have hN : z ≤ 9223372036854775807 := by omega
    by_cases hT2 : n = 0 ∨ z ≤ 4096 / n
    · exact playsW_6 k K (z : Int) p q r n c m d f b s (timesW l z) none w A hr hT (none_num) (fun W hb => ((times_ok p n c z l W hn (hv.next hb) hN hT2).mono fun _ _ h => progI_ok h) ) (fun W hb => ((times_ref_ok p n c z l W hn (hv.next hb) hN hT2).mono fun _ _ h => refI_ok h)) hk
    · have h0 : 0 < n := by omega
      have hm : 4096 / n < z := by omega
      exact playsW_6 k K (z : Int) p q r n c m d f b s [] (badW 0 4) w A hr hT (badW_num (by omega)) (fun W hb => ((times_big p n c z W A (hr.below hb) (by omega) h0 hm).mono fun _ _ h => progP_bad (IsI.nil _) h) ) (fun W hb => ((times_ref_big p n c z W (by omega) h0 hm hN).mono fun _ _ h => refP_bad (IsI.nil _) h)) hk
theorem playsC_1 (k K N : Int) (p q r : Option Addr) (n c m d f : Nat) (b : List Nat) (s : ByteArray) (l : List Int) (w : World) (A : Nat → Addr) (hr : Roots w A) (hT : TypeVar w) (hn : n = l.length) (hv : IntV w.heap.size w p c l) (hk : kind8 k = 1) :
    Calls Tryz.prog 8 #[.agg #[.int .i64 k, .int .i64 K, .int .i64 N, .slice p n c, .slice q m d, .slice r b.length f, .string s]] w (Tells (.bool true) w) := by
  cases hc : chkW K l with
  | some im =>
    obtain ⟨i, j⟩ := im
    exact playsW_1 k K N p q r n c m d f b s [] (badW i j) w A hr hT (badW_num (chkW_num hc)) (fun W hb => ((next_bad K p n c l W A (hr.below hb) hn (hv.next hb) i j hc).mono fun _ _ h => progP_bad (IsI.nil _) h) ) (fun W hb => ((next_ref_bad K p n c l W hn (hv.next hb) i j hc).mono fun _ _ h => refP_bad (IsI.nil _) h)) hk
  | none =>
    obtain ⟨k', rfl, h1, _, hl4, ho⟩ := chkW_none hc
    by_cases hL : l.length = 4096 ∧ l = List.replicate l.length ((k' : Int) - 1)
    · exact playsW_1 k _ N p q r n c m d f b s [] (badW 0 4) w A hr hT (badW_num (by omega)) (fun W hb => (next_full k' p n c l W A (hr.below hb) hn (hv.next hb) hc hL.1 hL.2).mono fun _ _ h => progP_bad (IsI.nil _) h) (fun W hb => (next_ref_full k' p n c l W hn (hv.next hb) hc hL.1 hL.2).mono fun _ _ h => refP_bad (IsI.nil _) h) hk
    · have hlast : l.length < 4096 ∨ l ≠ List.replicate l.length ((k' : Int) - 1) := by
        rcases Nat.lt_or_ge l.length 4096 with h | h
        · exact Or.inl h
        · exact Or.inr fun e => hL ⟨by omega, e⟩
      exact playsW_1 k _ N p q r n c m d f b s (nextOf k' l) none w A hr hT none_num (fun W hb => (next_any k' p n c l W hn (hv.next hb) hc hlast).mono fun _ _ ⟨x, hx, h⟩ => by rw [← nextOf_eq h1 ho hx]; exact progI_ok h) (fun W hb => (next_ref_any k' p n c l W hn (hv.next hb) hc hlast).mono fun _ _ ⟨x, hx, h⟩ => by rw [← nextOf_eq h1 ho hx]; exact refI_ok h) hk
theorem playsC_3 (k K N : Int) (p q r : Option Addr) (n c m d f : Nat) (b : List Nat) (s : ByteArray) (w : World) (A : Nat → Addr) (hr : Roots w A) (hT : TypeVar w) (hv : NatV w.heap.size w r f b) (hl : b.length ≤ 1000) (hk : kind8 k = 3) :
    Calls Tryz.prog 8 #[.agg #[.int .i64 k, .int .i64 K, .int .i64 N, .slice p n c, .slice q m d, .slice r b.length f, .string s]] w (Tells (.bool true) w) := by
  by_cases ha : (K < 1 ∨ 4 < K) ∨ N < 0
  · exact playsW_3 k K N p q r n c m d f b s [] (badW 0 3) w A hr hT (badW_num (by omega)) (fun W hb => ((at_arg K N r b.length f W A (hr.below hb) ha).mono fun _ _ h => progP_bad (IsI.nil _) h) ) (fun W hb => ((at_ref_arg K N r b.length f W ha).mono fun _ _ h => refP_bad (IsI.nil _) h)) hk
  by_cases h256 : 256 < N
  · exact playsW_3 k K N p q r n c m d f b s [] (badW 0 4) w A hr hT (badW_num (by omega)) (fun W hb => ((at_long K N r b.length f W A (hr.below hb) (by omega) (by omega) h256).mono fun _ _ h => progP_bad (IsI.nil _) h) ) (fun W hb => ((at_ref_long K N r b.length f W (by omega) (by omega) h256).mono fun _ _ h => refP_bad (IsI.nil _) h)) hk
  obtain ⟨k', rfl⟩ : ∃ z : Nat, K = (z : Int) := ⟨K.toNat, by omega⟩
  obtain ⟨z, rfl⟩ : ∃ z : Nat, N = (z : Int) := ⟨N.toNat, by omega⟩
  by_cases hlt : V32 b < k' ^ z
  · exact playsW_3 k _ _ p q r n c m d f b s (wordOf k' z (V32 b)) none w A hr hT none_num (fun W hb => (at_ok k' z r b.length f b W rfl (hv.next hb) (by omega) (by omega) (by omega) (by omega) hlt).mono fun _ _ ⟨x, h1, h2, h3, h⟩ => by rw [← wordOf_eq h1 h2 h3]; exact progI_ok h) (fun W hb => (at_ref_ok k' z r f b W (hv.next hb) hl (by omega) (by omega) (by omega) hlt).mono fun _ _ ⟨x, h1, h2, h3, h⟩ => by rw [← wordOf_eq h1 h2 h3]; exact refI_ok h) hk
  · exact playsW_3 k _ _ p q r n c m d f b s [] (badW 0 3) w A hr hT (badW_num (by omega)) (fun W hb => (at_over k' z r b.length f b W A (hr.below hb) rfl (hv.next hb) (by omega) (by omega) (by omega) (Nat.le_of_not_lt hlt)).mono fun _ _ h => progP_bad (IsI.nil _) h) (fun W hb => (at_ref_over k' z r f b W (hv.next hb) hl (by omega) (by omega) (by omega) (Nat.le_of_not_lt hlt)).mono fun _ _ h => refP_bad (IsI.nil _) h) hk
end Go.Proofs.YtfgoflaeclfggaaGreatDoor
end
section
namespace Go.Proofs.YtfgoflaeclfggaaGreatDoor
open Go.RowKit Go.Extern WordM NatM

/-- An op's fields. -/
structure Ow where
  (k K n : Int) (p q r : Option Addr) (c e f : Nat) (l m : List Int) (b : List Nat) (s : ByteArray)
def Ow.row (o : Ow) : List Value := [.int .i64 o.k, .int .i64 o.K, .int .i64 o.n, .slice o.p o.l.length o.c, .slice o.q o.m.length o.e, .slice o.r o.b.length o.f, .string o.s]
structure OkOw (w : World) (o : Ow) : Prop where
  a : IntV w.heap.size w o.p o.c o.l
  v : IntV w.heap.size w o.q o.e o.m
  i : NatV w.heap.size w o.r o.f o.b
  la : o.l.length ≤ 17592186043904
  lv : o.m.length ≤ 17592186043904
  n : o.n ≤ 9223372036854775807
  s : o.s.size ≤ maxLen
theorem OkOw.next {w w' : World} {o : Ow} (hb : Below w.heap.size w w') (h : OkOw w o) : OkOw w' o := ⟨h.a.next hb, h.v.next hb, h.i.next hb, h.la, h.lv, h.n, h.s⟩
theorem kind8_range (k : Int) : 0 ≤ kind8 k ∧ kind8 k < 8 := by
  have h1 : -8 < k.tmod 8 := Int.lt_tmod_of_pos k (by omega)
  refine ⟨?_, Int.tmod_lt_of_pos _ (by omega)⟩
  exact Int.tmod_nonneg _ (by omega)
theorem playsw_any (o : Ow) (w : World) (A : Nat → Addr) (hr : Roots w A) (hT : TypeVar w) (h : OkOw w o) (hb : o.b.length ≤ 1000) :
    Calls Tryz.prog 8 #[.agg o.row.toArray] w (Tells (.bool true) w) := by
  obtain ⟨k, K, n, p, q, r, c, e, f, l, m, b, s⟩ := o
  obtain ⟨ha, hv, hi, hla, hlv, hn, hs⟩ := h
  have hk := kind8_range k
  show Calls Tryz.prog 8 #[.agg #[.int .i64 k, .int .i64 K, .int .i64 n, .slice p l.length c, .slice q m.length e, .slice r b.length f, .string s]] w (Tells (.bool true) w)
  by_cases h0 : kind8 k = 0
  · exact playsC_0 k K n p q r l.length c m.length e f b s l w A hr hT rfl ha h0
  by_cases h1 : kind8 k = 1
  · exact playsC_1 k K n p q r l.length c m.length e f b s l w A hr hT rfl ha h1
  by_cases h2 : kind8 k = 2
  · exact playsC_2 k K n p q r l.length c m.length e f b s l w A hr hT rfl ha hla h2
  by_cases h3 : kind8 k = 3
  · exact playsC_3 k K n p q r l.length c m.length e f b s w A hr hT hi hb h3
  by_cases h4 : kind8 k = 4
  · exact playsC_4 k K n p q r l.length c m.length e f b s l w A hr hT rfl ha h4
  by_cases h5 : kind8 k = 5
  · exact playsC_5 k K n p q r l.length c m.length e f b s w A hr hT hs h5
  by_cases h6 : kind8 k = 6
  · exact playsC_6 k K n p q r l.length c m.length e f b s l w A hr hT rfl ha hla hn h6
  have h7 : kind8 k = 7 := by omega
  have hla2 : l.length ≤ 17592186044000 := Nat.le_trans hla (by decide)
  exact playsW_7 k K n p q r l.length c m.length e f b s l m w rfl rfl ha hv hla2 h7
end Go.Proofs.YtfgoflaeclfggaaGreatDoor
end
section
namespace Go.Proofs.YtfgoflaeclfggaaGreatDoor
open Go.ChangeShapes Go.WideShapes Go.ChangeAt Go.RowKit

theorem own : ownKnob Tryz.prog.godebug = none := by kernel_rfl
theorem star : "*" ++ "errors.errorString" = "*errors.errorString" := by decide
theorem row94 (u : TypeId) (h : Tryz.prog.typeName? 3 u = some "*errors.errorString") : u = 203 :=
  typeName_ptr_named (nm := "errors.errorString") (by rw [star]; kernel_rfl) (by kernel_rfl) (by decide) u (by rw [star]; exact h)
theorem cells96 : Tryz.prog.cellsOf 224 = 1 := by kernel_rfl
theorem cells9 : Tryz.prog.cellsOf 9 = 1 := by kernel_rfl

set_option maxRecDepth 100000 in
/-- The sentinels of a list: each variable points to a string's cell of its own. -/
theorem sents {W : World} : ∀ (l : List (String × DataW Unit)) (ps : List MemPlace), DataW.LaidVars Tryz.prog W l ps →
    (∀ x ∈ l, ∃ text, x.2 = .iface "*errors.errorString" (.ptr (.agg [.lit (.string text)]))) → (∀ x ∈ l, ∀ g, Tryz.prog.globalNamed x.1 = some g → (Tryz.prog.globals[g]?).map (·.type) = some 45) →
    (∀ b off, MemPlace.cell b off ∈ ps → (∃ c t, W.heap[b]? = some (.cells c t (0, 0))) ∧ ∀ u v, W.cell? ⟨b, off, none⟩ = some (.iface u v) → Value.okWide Tryz.prog W .any 0 u v) →
    ∃ ads : List Addr, ads.length = l.length ∧ (∀ i, i < l.length → ∃ n d a, l[i]? = some (n, d) ∧ ads[i]? = some a ∧ W.var? Tryz.prog n = some #[.iface 203 (.pointer (some a))]) ∧
      (∀ a ∈ ads, (∃ c t, W.heap[a.block]? = some (.cells c t (0, 0))) ∧ MemPlace.cell a.block a.off ∈ ps) ∧ (ps.Nodup → ads.Nodup)
  | [], _, _, _, _, _ => ⟨[], rfl, fun i h => absurd h (by simp), fun a h => absurd h (by simp), fun _ => List.nodup_nil⟩
  | (n, d) :: r, ps, h, hf, hg, hrows => by
    obtain ⟨g, t, cs, f0, p0, q0, hg0, ht0, hv0, hd0, hr, rfl⟩ := h
    obtain ⟨text, hx⟩ := hf (n, d) (List.mem_cons_self ..)
    simp only at hx
    subst hx
    have ht := hg _ (List.mem_cons_self ..) g hg0
    obtain rfl := Option.some.inj (ht.symm.trans ht0)
    obtain ⟨l0⟩ := cs
    have ok0 : ∀ u v, l0 = [.iface u v] → Value.okWide Tryz.prog W .any 0 u v := fun u v e => by
      subst e
      exact (hrows g 0 (by simp [MemPlace.row])).2 u v (by simpa using World.var?_cell hg0 hv0 0)
    obtain ⟨a, s, rfl, hc, hs, hz, rfl⟩ := errorString_of_trod Tryz.underlying45 row94 Tryz.underlying203 Tryz.underlying224 rfl rfl Tryz.underlying9 cells96 cells9 hd0 ok0
    obtain ⟨ads, h1, h2, h3, h4⟩ := sents r q0 hr (fun x hx => hf x (List.mem_cons_of_mem _ hx)) (fun x hx => hg x (List.mem_cons_of_mem _ hx)) (fun b off hm => hrows b off (List.mem_append_right _ hm))
    refine ⟨a :: ads, by simp [h1], ?_, ?_, ?_⟩
    · intro i hi
      cases i with
      | zero => exact ⟨n, _, a, rfl, rfl, hv0⟩
      | succ i => exact h2 i (by simpa using hi)
    · intro b hb
      rcases List.mem_cons.1 hb with rfl | hb
      · exact ⟨(hrows b.block b.off (by simp [MemPlace.row])).1, by simp [MemPlace.row]⟩
      · exact ⟨(h3 b hb).1, List.mem_append_right _ (h3 b hb).2⟩
    · intro hn
      have hq : q0.Nodup := (List.nodup_append.1 hn).2.1
      refine List.nodup_cons.2 ⟨fun hm => ?_, h4 hq⟩
      have hd := (List.nodup_append.1 hn).2.2 (MemPlace.cell a.block a.off) (by simp [MemPlace.row]) _ (h3 a hm).2
      exact hd rfl

/-- The list of the twelve, ads every row has it behind the handle. -/
def twelve : List (String × DataW Unit) := [("eden/api.BadRule", Rows.laid_eden_api_BadRule), ("eden/api.BadWord", Rows.laid_eden_api_BadWord), ("eden/api.BadArg", Rows.laid_eden_api_BadArg), ("eden/api.TooBig", Rows.laid_eden_api_TooBig), ("eden/api.NoBudget", Rows.laid_eden_api_NoBudget), ("eden/api.BadText", Rows.laid_eden_api_BadText), ("eden/api.BadPatch", Rows.laid_eden_api_BadPatch), ("eden/api.BadCert", Rows.laid_eden_api_BadCert), ("eden/api.NoInverse", Rows.laid_eden_api_NoInverse), ("eden/api.BadLine", Rows.laid_eden_api_BadLine), ("eden/api.BadState", Rows.laid_eden_api_BadState), ("eden/api.Unknown", Rows.laid_eden_api_Unknown)]
theorem twelve_form : ∀ x ∈ twelve, ∃ text, x.2 = .iface "*errors.errorString" (.ptr (.agg [.lit (.string text)])) := by
  intro x hx
  simp only [twelve, List.mem_cons, List.not_mem_nil, or_false] at hx
  rcases hx with rfl | rfl | rfl | rfl | rfl | rfl | rfl | rfl | rfl | rfl | rfl | rfl <;> exact ⟨_, rfl⟩
theorem gBadRule : Tryz.prog.globalNamed "eden/api.BadRule" = some 0 := by kernel_rfl
theorem gtBadRule : (Tryz.prog.globals[0]?).map (·.type) = some 45 := by kernel_rfl
theorem gBadWord : Tryz.prog.globalNamed "eden/api.BadWord" = some 1 := by kernel_rfl
theorem gtBadWord : (Tryz.prog.globals[1]?).map (·.type) = some 45 := by kernel_rfl
theorem gBadArg : Tryz.prog.globalNamed "eden/api.BadArg" = some 2 := by kernel_rfl
theorem gtBadArg : (Tryz.prog.globals[2]?).map (·.type) = some 45 := by kernel_rfl
theorem gTooBig : Tryz.prog.globalNamed "eden/api.TooBig" = some 3 := by kernel_rfl
theorem gtTooBig : (Tryz.prog.globals[3]?).map (·.type) = some 45 := by kernel_rfl
theorem gNoBudget : Tryz.prog.globalNamed "eden/api.NoBudget" = some 4 := by kernel_rfl
theorem gtNoBudget : (Tryz.prog.globals[4]?).map (·.type) = some 45 := by kernel_rfl
theorem gBadText : Tryz.prog.globalNamed "eden/api.BadText" = some 5 := by kernel_rfl
theorem gtBadText : (Tryz.prog.globals[5]?).map (·.type) = some 45 := by kernel_rfl
theorem gBadPatch : Tryz.prog.globalNamed "eden/api.BadPatch" = some 6 := by kernel_rfl
theorem gtBadPatch : (Tryz.prog.globals[6]?).map (·.type) = some 45 := by kernel_rfl
theorem gBadCert : Tryz.prog.globalNamed "eden/api.BadCert" = some 7 := by kernel_rfl
theorem gtBadCert : (Tryz.prog.globals[7]?).map (·.type) = some 45 := by kernel_rfl
theorem gNoInverse : Tryz.prog.globalNamed "eden/api.NoInverse" = some 8 := by kernel_rfl
theorem gtNoInverse : (Tryz.prog.globals[8]?).map (·.type) = some 45 := by kernel_rfl
theorem gBadLine : Tryz.prog.globalNamed "eden/api.BadLine" = some 9 := by kernel_rfl
theorem gtBadLine : (Tryz.prog.globals[9]?).map (·.type) = some 45 := by kernel_rfl
theorem gBadState : Tryz.prog.globalNamed "eden/api.BadState" = some 10 := by kernel_rfl
theorem gtBadState : (Tryz.prog.globals[10]?).map (·.type) = some 45 := by kernel_rfl
theorem gUnknown : Tryz.prog.globalNamed "eden/api.Unknown" = some 11 := by kernel_rfl
theorem gtUnknown : (Tryz.prog.globals[11]?).map (·.type) = some 45 := by kernel_rfl
theorem twelve_types : ∀ x ∈ twelve, ∀ g, Tryz.prog.globalNamed x.1 = some g → (Tryz.prog.globals[g]?).map (·.type) = some 45 := by
  intro x hx g hg
  simp only [twelve, List.mem_cons, List.not_mem_nil, or_false] at hx
  rcases hx with rfl | rfl | rfl | rfl | rfl | rfl | rfl | rfl | rfl | rfl | rfl | rfl
  · obtain rfl := Option.some.inj (gBadRule.symm.trans hg); exact gtBadRule
  · obtain rfl := Option.some.inj (gBadWord.symm.trans hg); exact gtBadWord
  · obtain rfl := Option.some.inj (gBadArg.symm.trans hg); exact gtBadArg
  · obtain rfl := Option.some.inj (gTooBig.symm.trans hg); exact gtTooBig
  · obtain rfl := Option.some.inj (gNoBudget.symm.trans hg); exact gtNoBudget
  · obtain rfl := Option.some.inj (gBadText.symm.trans hg); exact gtBadText
  · obtain rfl := Option.some.inj (gBadPatch.symm.trans hg); exact gtBadPatch
  · obtain rfl := Option.some.inj (gBadCert.symm.trans hg); exact gtBadCert
  · obtain rfl := Option.some.inj (gNoInverse.symm.trans hg); exact gtNoInverse
  · obtain rfl := Option.some.inj (gBadLine.symm.trans hg); exact gtBadLine
  · obtain rfl := Option.some.inj (gBadState.symm.trans hg); exact gtBadState
  · obtain rfl := Option.some.inj (gUnknown.symm.trans hg); exact gtUnknown

theorem nodup_inj {α : Type} {l : List α} (h : l.Nodup) {i j : Nat} (hi : i < l.length) (hj : j < l.length) (e : l[i] = l[j]) : i = j := by
  have hp := List.pairwise_iff_getElem.1 h
  rcases Nat.lt_trichotomy i j with k | k | k
  · exact absurd e (hp i j hi hj k)
  · exact k
  · exact absurd e.symm (hp j i hj hi k)

/-- Which of the list is which error. -/
def slotOf (k : Nat) : Nat := (k + 11) % 12
theorem slotOf_inj (j k : Nat) (hj : j ≤ 11) (hk : k ≤ 11) (h : slotOf j = slotOf k) : j = k := by unfold slotOf at h; omega

theorem roots_of_twelve {W : World} (h : laidMet Tryz.prog twelve W) : ∃ A, Roots W A := by
  obtain ⟨ps, hv, hn, hrows⟩ := h
  obtain ⟨ads, h1, h2, h3, h4⟩ := sents twelve ps hv twelve_form twelve_types hrows
  have hlen : ads.length = 12 := h1
  have hnd := h4 hn
  refine ⟨fun k => ads.getD (slotOf k) ⟨0, 0, none⟩, ?_, ?_, ?_⟩
  · intro k hk
    have hs : slotOf k < 12 := Nat.mod_lt _ (by decide)
    obtain ⟨n, d, a, e1, e2, e3⟩ := h2 (slotOf k) hs
    have ea : ads.getD (slotOf k) ⟨0, 0, none⟩ = a := by rw [List.getD_eq_getElem?_getD, e2]; rfl
    show W.cell? ⟨rootVar k, 0, none⟩ = some (.iface 203 (.pointer (some (ads.getD (slotOf k) ⟨0, 0, none⟩))))
    rw [ea]
    clear ea e2
    match k, hk with
    | 0, _ => obtain ⟨rfl, rfl⟩ := Prod.mk.inj (Option.some.inj e1); simpa [rootVar] using World.var?_cell gUnknown e3 0
    | 1, _ => obtain ⟨rfl, rfl⟩ := Prod.mk.inj (Option.some.inj e1); simpa [rootVar] using World.var?_cell gBadRule e3 0
    | 2, _ => obtain ⟨rfl, rfl⟩ := Prod.mk.inj (Option.some.inj e1); simpa [rootVar] using World.var?_cell gBadWord e3 0
    | 3, _ => obtain ⟨rfl, rfl⟩ := Prod.mk.inj (Option.some.inj e1); simpa [rootVar] using World.var?_cell gBadArg e3 0
    | 4, _ => obtain ⟨rfl, rfl⟩ := Prod.mk.inj (Option.some.inj e1); simpa [rootVar] using World.var?_cell gTooBig e3 0
    | 5, _ => obtain ⟨rfl, rfl⟩ := Prod.mk.inj (Option.some.inj e1); simpa [rootVar] using World.var?_cell gNoBudget e3 0
    | 6, _ => obtain ⟨rfl, rfl⟩ := Prod.mk.inj (Option.some.inj e1); simpa [rootVar] using World.var?_cell gBadText e3 0
    | 7, _ => obtain ⟨rfl, rfl⟩ := Prod.mk.inj (Option.some.inj e1); simpa [rootVar] using World.var?_cell gBadPatch e3 0
    | 8, _ => obtain ⟨rfl, rfl⟩ := Prod.mk.inj (Option.some.inj e1); simpa [rootVar] using World.var?_cell gBadCert e3 0
    | 9, _ => obtain ⟨rfl, rfl⟩ := Prod.mk.inj (Option.some.inj e1); simpa [rootVar] using World.var?_cell gNoInverse e3 0
    | 10, _ => obtain ⟨rfl, rfl⟩ := Prod.mk.inj (Option.some.inj e1); simpa [rootVar] using World.var?_cell gBadLine e3 0
    | 11, _ => obtain ⟨rfl, rfl⟩ := Prod.mk.inj (Option.some.inj e1); simpa [rootVar] using World.var?_cell gBadState e3 0
  · intro k hk
    have hs : slotOf k < ads.length := by rw [hlen]; exact Nat.mod_lt _ (by decide)
    have ea : ads.getD (slotOf k) ⟨0, 0, none⟩ = ads[slotOf k] := by rw [List.getD_eq_getElem?_getD, List.getElem?_eq_getElem hs]; rfl
    show Target W (ads.getD (slotOf k) ⟨0, 0, none⟩)
    rw [ea]
    exact (h3 _ (List.getElem_mem hs)).1
  · intro j k hj hk h
    have hsj : slotOf j < ads.length := by rw [hlen]; exact Nat.mod_lt _ (by decide)
    have hsk : slotOf k < ads.length := by rw [hlen]; exact Nat.mod_lt _ (by decide)
    have ej : ads.getD (slotOf j) ⟨0, 0, none⟩ = ads[slotOf j] := by rw [List.getD_eq_getElem?_getD, List.getElem?_eq_getElem hsj]; rfl
    have ek : ads.getD (slotOf k) ⟨0, 0, none⟩ = ads[slotOf k] := by rw [List.getD_eq_getElem?_getD, List.getElem?_eq_getElem hsk]; rfl
    have h' : ads[slotOf j] = ads[slotOf k] := ej.symm.trans (h.trans ek)
    exact slotOf_inj j k hj hk (nodup_inj hnd hsj hsk h')

/-! ### errors.errorType -/
theorem et : Tryz.prog.globalNamed "errors.errorType" = some 12 := by kernel_rfl
theorem rt : (Tryz.prog.cutTypes.find? (·.1 == "internal/reflectlite.rtype")).map (·.2) = some 169 := by kernel_rfl
theorem oneRow : ((List.range 236).filter fun t => Tryz.prog.rowNamed t [101, 114, 114, 111, 114]) = [45] := by kernel_rfl
theorem typesSize : Tryz.prog.types.size = 236 := by kernel_rfl
theorem typeVar_of_handle {W : World} (h : handlesMet Tryz.prog [("errors.errorType", Rows.laid_errors_errorType)] W) : TypeVar W := by
  obtain ⟨name, u, ty, e1, e2, e3, e4, e5⟩ := h _ (List.mem_singleton.2 rfl)
  have en : name = [101, 114, 114, 111, 114] := (Option.some.inj e1).symm
  subst en
  obtain rfl := Option.some.inj (rt.symm.trans e2)
  have hm : ty ∈ (List.range 236).filter fun t => Tryz.prog.rowNamed t [101, 114, 114, 111, 114] := List.mem_filter.2 ⟨List.mem_range.2 (by rw [← typesSize]; exact e3), e4⟩
  rw [oneRow] at hm
  obtain rfl := List.mem_singleton.1 hm
  have hh : typeHandle Tryz.prog 45 = .pointer (some ⟨17, 45, none⟩) := by kernel_rfl
  rw [hh] at e5
  unfold TypeVar
  simpa using World.var?_cell et e5 0

/-- The list of thirteen: the handle, then the twelve. -/
def thirteen : List (String × DataW Unit) := ("errors.errorType", Rows.laid_errors_errorType) :: twelve
theorem roots_of_laid {W : World} (h : laidMetH Tryz.prog thirteen W) : ∃ A, Roots W A ∧ TypeVar W := by
  have h' : laidMet Tryz.prog twelve W ∧ handlesMet Tryz.prog [("errors.errorType", Rows.laid_errors_errorType)] W := h
  obtain ⟨A, hA⟩ := roots_of_twelve h'.1
  exact ⟨A, hA, typeVar_of_handle h'.2⟩

/-! ### a world that meets the list -/
noncomputable def low : Nat := (World.holding Tryz.prog default ⟨#[], #[], []⟩).heap.size
/-- A variable's one cell, laid. -/
def layCell (v : Value) (o : Obj) : Obj := match o with
  | .cells _ t frozen => .cells #[v] t frozen
  | o => o
def ptr94 (b : Nat) : Value := .iface 203 (.pointer (some ⟨b, 0, none⟩))
noncomputable def laidWorld (os : Os) : World :=
  let w0 := World.holding Tryz.prog os ⟨#[.cells #[.string { data := #[98, 97, 100, 32, 114, 117, 108, 101] }] 224, .cells #[.string { data := #[98, 97, 100, 32, 119, 111, 114, 100] }] 224, .cells #[.string { data := #[98, 97, 100, 32, 97, 114, 103, 117, 109, 101, 110, 116] }] 224, .cells #[.string { data := #[116, 111, 111, 32, 98, 105, 103] }] 224, .cells #[.string { data := #[110, 111, 32, 98, 117, 100, 103, 101, 116] }] 224, .cells #[.string { data := #[98, 97, 100, 32, 116, 101, 120, 116] }] 224, .cells #[.string { data := #[98, 97, 100, 32, 112, 97, 116, 99, 104] }] 224, .cells #[.string { data := #[98, 97, 100, 32, 99, 101, 114, 116, 105, 102, 105, 99, 97, 116, 101] }] 224, .cells #[.string { data := #[110, 111, 32, 105, 110, 118, 101, 114, 115, 101] }] 224, .cells #[.string { data := #[98, 97, 100, 32, 108, 105, 110, 101] }] 224, .cells #[.string { data := #[98, 97, 100, 32, 115, 116, 97, 116, 101] }] 224, .cells #[.string { data := #[117, 110, 107, 110, 111, 119, 110] }] 224], #[], []⟩
  { w0 with heap := ((((((((((((w0.heap.modify 0 (layCell (ptr94 (low + 0)))).modify 1 (layCell (ptr94 (low + 1)))).modify 2 (layCell (ptr94 (low + 2)))).modify 3 (layCell (ptr94 (low + 3)))).modify 4 (layCell (ptr94 (low + 4)))).modify 5 (layCell (ptr94 (low + 5)))).modify 6 (layCell (ptr94 (low + 6)))).modify 7 (layCell (ptr94 (low + 7)))).modify 8 (layCell (ptr94 (low + 8)))).modify 9 (layCell (ptr94 (low + 9)))).modify 10 (layCell (ptr94 (low + 10)))).modify 11 (layCell (ptr94 (low + 11)))).modify 12 (layCell (.iface 169 (.agg #[.pointer (some ⟨17, 45, none⟩)]))) }
end Go.Proofs.YtfgoflaeclfggaaGreatDoor
end
section
namespace Go.Proofs.YtfgoflaeclfggaaGreatDoor
open Go.ChangeShapes Go.WideShapes Go.ChangeAt Go.RowKit

theorem laidOut : laidOutB Tryz.prog = true := by kernel_rfl

/-- A type that a reading can be carried on at. -/
def Carries (t : TypeId) : Prop := Tryz.prog.readableRec t = true ∧ t < Tryz.prog.types.size
theorem trodAll_below {H : Type} {enc : TypeId × Value → H} {W W' : World} (hb : Below W.heap.size W W') (ts : List TypeId) : ∀ {vs : List Value} {ds : List (DataW H)} {ps : List MemPlace},
    (∀ t ∈ ts, Carries t) → (∀ x ∈ ps, x.block < W.heap.size) →
    DataW.TrodAll enc Tryz.prog W 0 (fun _ => true) true ts vs ds ps → DataW.TrodAll enc Tryz.prog W' 0 (fun b => decide (b < W.heap.size)) true ts vs ds ps := by
  induction ts with
  | nil =>
    intro vs ds ps _ _ h
    obtain ⟨rfl, rfl, rfl⟩ := trodAll_nil h
    exact trodAll_mk0
  | cons t ts ih =>
    intro vs ds ps hr hlt h
    obtain ⟨v, vs', d, ds', p, q, rfl, rfl, rfl, h0, h1⟩ := trodAll_cons h
    have ht := hr t (List.mem_cons_self ..)
    exact trodAll_cons_mk (Below.trod laidOut ht.1 ht.2 h0 hb fun x hx => hlt x (List.mem_append_left _ hx))
      (ih (fun u hu => hr u (List.mem_cons_of_mem _ hu)) (fun x hx => hlt x (List.mem_append_right _ hx)) h1)

/-- The post of a law's row. -/
theorem law_post {H : Type} {enc : TypeId × Value → H} {W W' : World} {args : Array Value} {ds gs : List (DataW H)} {before : List MemPlace} (spec : ChangeSpec) (fn : Func)
    (hres : fn.resultTypes = #[4]) (hv : spec.vars = []) (hf : spec.fn H (ds ++ gs) = { results := [.lit (.bool true)], args := ds })
    (hr : ∀ t ∈ fn.params.toList, Carries t)
    (hW : DataW.Whole enc Tryz.prog fn.params.toList spec.vars false W args.toList ds gs before) (hb : Below W.heap.size W W') :
    spec.post enc Tryz.prog fn false true false false W args (.bool true) W' := by
  have hW' := hW
  have hlt : ∀ x ∈ before, x.block < W.heap.size := fun x hx => by simpa using hW'.lt x hx
  obtain ⟨p, q, hA0, hV, rfl, hfz, hnd⟩ := hW
  have hA : DataW.TrodAll enc Tryz.prog W 0 (fun _ => true) true fn.params.toList args.toList ds p := hA0
  refine ⟨_, _, _, [], p, [], hW', ?_, ?_, ?_, hb.frame _, fun h => by cases h⟩
  · rw [hf, hres]
    exact trodAll_mk1 (shut_bool Tryz.underlying4 true)
  · rw [hf]
    exact trodAll_below hb _ hr (fun x hx => hlt x (List.mem_append_left _ hx)) hA
  · rw [hf, hv]
    rfl

/-- An argument that is a slice of strings, opened: its value, and its strings. -/
theorem open_strs {H : Type} {enc : TypeId × Value → H} {W : World} {v : Value} {d : DataW H} {p : List MemPlace} (hok : ∃ a len cap, v = .slice a len cap)
    (h : DataW.Trod enc Tryz.prog W 0 (fun _ => true) true 54 v d p) (hlt : ∀ x ∈ p, x.block < W.heap.size) :
    ∃ (a : Option Addr) (n cap : Nat) (ss : List ByteArray), v = .slice a n cap ∧ n ≤ ss.length ∧ n ≤ cap ∧ cap ≤ maxLen ∧ (∀ s ∈ ss, s.size ≤ maxLen) ∧ ss.length = cap ∧ (d = .nil ∨ d = .slice (strs (ss.take n)) (strs (ss.drop n))) ∧
      ∀ j, j < n → ∃ b off, a = some ⟨b, off, none⟩ ∧ b < W.heap.size ∧ W.cell? ⟨b, off + j, none⟩ = some (.string (ss.getD j .empty)) := by
  obtain ⟨a0, len, cap, rfl⟩ := hok
  obtain ⟨fuel, hf⟩ := h
  rcases open_strings Tryz.underlying54 Tryz.underlying9 cells9 hf with ⟨hcs, hx⟩ | ⟨a, len', cap', ss, hcs, _, hl, hm, hz, hx, hcell, hws⟩
  · simp [Value.cells] at hcs
    obtain ⟨rfl, rfl, rfl⟩ := hcs
    exact ⟨none, 0, 0, [], rfl, Nat.zero_le _, Nat.zero_le _, Nat.zero_le _, (by simp), rfl, Or.inl (Prod.mk.inj hx).1, fun j hj => absurd hj (Nat.not_lt_zero j)⟩
  · simp [Value.cells] at hcs
    obtain ⟨rfl, rfl, rfl⟩ := hcs
    simp only [if_true] at hz
    obtain ⟨rfl, rfl⟩ := Prod.mk.inj hx
    refine ⟨some a, len, cap, ss, rfl, by omega, hl, hm, hws, hz, Or.inr rfl, fun j hj => ?_⟩
    obtain ⟨b, off, spot⟩ := a
    have hspot : spot = none := by simpa [Addr.add] using World.cell?_spot (hcell 0 (by omega))
    subst hspot
    exact ⟨b, off, rfl, hlt (.cell b off) (MemPlace.mem_row.2 ⟨0, by omega, by simp⟩), by rw [← add_plain]; exact hcell j (by omega)⟩
end Go.Proofs.YtfgoflaeclfggaaGreatDoor
end
section
namespace Go.Proofs.YtfgoflaeclfggaaGreatDoor
open Go.ChangeShapes Go.WideShapes Go.ChangeAt Go.RowKit NatM

theorem cells32_1 : Tryz.prog.cellsOf 51 = 1 := by kernel_rfl
theorem wf_u32 {n : Int} (h : (Lit.int .u32 n).wf = true) : 0 ≤ n ∧ n < 4294967296 := by
  have := bounds_u32 h
  omega
theorem open_nat {H : Type} {enc : TypeId × Value → H} {W : World} {v : Value} {d : DataW H} {p : List MemPlace} (hok : ∃ a len cap, v = .slice a len cap)
    (h : DataW.Trod enc Tryz.prog W 0 (fun _ => true) true 26 v d p) (hlt : ∀ x ∈ p, x.block < W.heap.size) :
    ∃ (a : Option Addr) (cap : Nat) (l : List Nat), v = .slice a l.length cap ∧ NatV W.heap.size W a cap l := by
  obtain ⟨a0, len, cap, rfl⟩ := hok
  obtain ⟨fuel, hf⟩ := h
  rcases open_ints Tryz.underlying26 Tryz.underlying51 cells32_1 hf with ⟨hcs, _⟩ | ⟨a, len', cap', zs, hcs, _, hl, hm, hz, hx, hcell, hwf⟩
  · simp [Value.cells] at hcs
    obtain ⟨rfl, rfl, rfl⟩ := hcs
    exact ⟨none, 0, [], rfl, okB_nil _, Nat.le_refl _, Nat.zero_le _, fun _ => rfl, fun h => absurd rfl h⟩
  · simp [Value.cells] at hcs
    obtain ⟨rfl, rfl, rfl⟩ := hcs
    simp only [if_true] at hz
    obtain ⟨rfl, rfl⟩ := Prod.mk.inj hx
    have hlen : ((zs.take len).map Int.toNat).length = len := by rw [List.length_map, List.length_take]; omega
    refine ⟨some a, cap, (zs.take len).map Int.toNat, by rw [hlen], ?_, by rw [hlen]; exact hl, hm, (fun h => by cases h), fun hn => ?_⟩
    · intro x hx
      obtain ⟨z, hz, rfl⟩ := List.mem_map.1 hx
      have := wf_u32 (hwf z (List.mem_of_mem_take hz))
      omega
    · obtain ⟨b, off, spot⟩ := a
      have h0 : 0 < zs.length := by
        have := List.length_pos_iff.2 hn
        rw [hlen] at this
        omega
      have hspot : spot = none := by simpa [Addr.add] using World.cell?_spot (hcell 0 h0)
      subst hspot
      refine ⟨b, off, rfl, hlt (.cell b off) (MemPlace.mem_row.2 ⟨0, h0, by simp⟩), fun j x hx => ?_⟩
      have hj := get_lt hx
      rw [hlen] at hj
      have hjz : j < zs.length := by omega
      have hc := hcell j hjz
      have hw := wf_u32 (hwf _ (List.getElem_mem hjz))
      have e : zs.getD j 0 = (x : Int) := by
        rw [List.getElem?_map, List.getElem?_take, if_pos hj, List.getElem?_eq_getElem hjz] at hx
        have := Option.some.inj hx
        rw [List.getD_eq_getElem?_getD, List.getElem?_eq_getElem hjz]
        show zs[j] = _
        omega
      rw [e, add_plain] at hc
      exact hc
end Go.Proofs.YtfgoflaeclfggaaGreatDoor
end
section
namespace Go.Proofs.YtfgoflaeclfggaaGreatDoor
open Go.ChangeShapes Go.WideShapes Go.ChangeAt Go.RowKit Go.Extern.Stop Go.Stop Go.Extern WordM NatM

/-- Lists that are known in the world wx; below w nothing has changed. -/
structure Si (w wx : World) (L : List Sl) : Prop where
  each : ∀ x : Sl, x ∈ L → IntV wx.heap.size wx x.1 x.2.1 x.2.2
  below : Below w.heap.size w wx
theorem Si.start (w : World) : Si w w [] := ⟨(fun x h => by cases h), Below.refl _ _⟩
theorem Si.get {w wx : World} {L : List Sl} (S : Si w wx L) (i : Nat) {p : Option Addr} {c : Nat} {l : List Int} (h : L[i]? = some (p, c, l)) : IntV wx.heap.size wx p c l := S.each _ (List.mem_of_getElem? h)
theorem Si.next {w wx w' : World} {L : List Sl} (S : Si w wx L) (hb : Below wx.heap.size wx w') : Si w w' L :=
  ⟨fun x hx => (S.each x hx).next hb, S.below.trans (hb.mono S.below.size)⟩
theorem Si.push {w wx : World} {L : List Sl} (S : Si w wx L) {p : Option Addr} {c : Nat} {l : List Int} (h : IntV wx.heap.size wx p c l) : Si w wx ((p, c, l) :: L) :=
  ⟨fun x hx => by
    rcases List.mem_cons.1 hx with rfl | hx
    · exact h
    · exact S.each x hx, S.below⟩
theorem Si.alloc {w wx : World} {L : List Sl} (S : Si w wx L) (o : Obj) : Si w (wx.alloc o) L := S.next ((Below.refl _ _).alloc (Nat.le_refl _) _)
/-- a literal of ints, just laid -/
theorem Si.lit {w wx : World} {L : List Sl} (S : Si w wx L) (l : List Int) (cs : Array Value) (t : TypeId) (hc : cs.toList = cI l) (hl : l.length ≤ 1000) :
    Si w (wx.alloc (.cells cs t)) ((some ⟨wx.heap.size, 0, none⟩, l.length, l) :: L) := (S.alloc _).push (IntV.laid l cs t hc hl)
theorem Si.drew {w wx : World} {L : List Sl} (S : Si w wx L) : Si w wx.drew L := S.next (Below.refl _ _).drew

theorem next_011 : IsNext 2 [0, 1, 1] [1, 0, 0] := Or.inl ⟨0, 0, rfl, by decide, by decide, by decide⟩
theorem ok_011 : okW 2 [0, 1, 1] := fun x hx => by simp at hx; omega
theorem chk_011 : chkW 2 [0, 1, 1] = none := by decide
def txt031 : ByteArray := { data := #[48, 51, 49] }
theorem chk_031 : chkW 4 (sW txt031) = none := by decide +kernel
theorem sW_031 : sW txt031 = [0, 3, 1] := by decide +kernel
theorem cmp_0100 : cmpW [0, 1] [0, 0] = 1 := by decide
theorem per_0101 : perW [0, 1, 0, 1] = 2 := by
  refine perW_eq (by decide) ⟨by decide, ⟨2, rfl⟩, fun i => ?_, fun q h1 h2 => ?_⟩
  · have h : i % 4 = 0 ∨ i % 4 = 1 ∨ i % 4 = 2 ∨ i % 4 = 3 := by omega
    unfold F
    show ([0, 1, 0, 1] : List Int).getD ((i + 2) % 4) 0 = ([0, 1, 0, 1] : List Int).getD (i % 4) 0
    rcases h with h | h | h | h
    · rw [h, show (i + 2) % 4 = 2 by omega]; rfl
    · rw [h, show (i + 2) % 4 = 3 by omega]; rfl
    · rw [h, show (i + 2) % 4 = 0 by omega]; rfl
    · rw [h, show (i + 2) % 4 = 1 by omega]; rfl
  · obtain rfl : q = 1 := by omega
    rintro ⟨_, h⟩
    have := h 0
    revert this
    decide
set_option maxRecDepth 100000 in
set_option maxHeartbeats 4000000 in
theorem awakeW (w : World) : Calls Tryz.prog 5 #[] w (Tells (.bool true) w) := by
  go_enter Tryz.func5, Tryz.ntmps5
  go_wp2_with fail
  have S1 := Lib.hid ((Si.start w).lit [0, 1, 1] #[.int .i64 0, .int .i64 1, .int .i64 1] 3 rfl (by decide))
  refine (next_any 2 _ 3 3 [0, 1, 1] _ rfl (S1.out.get 0 rfl) chk_011 (Or.inl (by decide))).mono ?_
  rintro e w1 ⟨x, hx, p1, c1, rfl, ho1, hb1⟩
  obtain rfl := isNext_unique (k := 2) (by decide) ok_011 hx next_011
  have S2 := Lib.hid ((S1.out.next hb1).push ho1.toV)
  clear ho1 hb1 hx S1
  go_wp2_with fail
  refine (parseW_ok 4 txt031 _ chk_031).mono ?_
  rintro e w2 ⟨p2, c2, rfl, ho2, hb2⟩
  rw [sW_031] at ho2 ⊢
  have S3 := Lib.hid ((S2.out.next hb2).push ho2.toV)
  clear ho2 hb2 S2
  go_wp2_with fail
  have S4 := Lib.hid (S3.out.lit [1, 0, 0] #[.int .i64 1, .int .i64 0, .int .i64 0] 3 rfl (by decide))
  refine (ints_any _ _ _ _ _ _ [1, 0, 0] [1, 0, 0] _ rfl rfl (S4.out.get 2 rfl) (S4.out.get 0 rfl)).mono ?_
  rintro e w3 ⟨rfl, hb3⟩
  rw [sameI_self]
  have S5 := Lib.hid (S4.out.next hb3)
  clear hb3 S3 S4
  go_wp2_with fail
  have S6 := Lib.hid (S5.out.lit [0, 3, 1] #[.int .i64 0, .int .i64 3, .int .i64 1] 3 rfl (by decide))
  refine (ints_any _ _ _ _ _ _ [0, 3, 1] [0, 3, 1] _ rfl rfl (S6.out.get 2 rfl) (S6.out.get 0 rfl)).mono ?_
  rintro e w4 ⟨rfl, hb4⟩
  rw [sameI_self]
  have S7 := Lib.hid (S6.out.next hb4)
  clear hb4 S5 S6
  go_wp2_with fail
  have S8 := Lib.hid ((S7.out.lit [0, 1] #[.int .i64 0, .int .i64 1] 3 rfl (by decide)).lit [0, 0] #[.int .i64 0, .int .i64 0] 3 rfl (by decide))
  refine (cmp_w _ _ _ _ _ _ [0, 1] [0, 0] _ rfl rfl (S8.out.get 1 rfl) (by first | exact S8.out.get 0 rfl | (have h := S8.out.get 0 rfl; simpa using h))).mono ?_
  rintro e w5 ⟨rfl, rfl⟩
  rw [cmp_0100]
  go_wp2_with fail
  have S9 := Lib.hid (S8.out.lit [0, 1, 0, 1] #[.int .i64 0, .int .i64 1, .int .i64 0, .int .i64 1] 3 rfl (by decide))
  refine (Quiet.tells (period_any _ _ _ [0, 1, 0, 1] _ rfl (by first | exact S9.out.get 0 rfl | (have h := S9.out.get 0 rfl; simpa using h)) (by decide))).mono ?_
  rintro e w6 ⟨rfl, hb6⟩
  rw [per_0101]
  have S10 := Lib.hid (S9.out.next hb6).below
  clear hb6 S7 S8 S9
  go_wp2_with fail
  go_ret
  exact ⟨rfl, S10.out⟩

/-- every one is an int's value -/
def okI (l : List Int) : Prop := ∀ x ∈ l, -9223372036854775808 ≤ x ∧ x ≤ 9223372036854775807
theorem cellsInt_1 : Tryz.prog.cellsOf 3 = 1 := by kernel_rfl
theorem wf_i64 {n : Int} (h : (Lit.int .i64 n).wf = true) : -9223372036854775808 ≤ n ∧ n ≤ 9223372036854775807 := by
  have := bounds_i64 h
  omega
/-- an argument that is a list of ints, opened -/
theorem open_intl {H : Type} {enc : TypeId × Value → H} {W : World} {v : Value} {d : DataW H} {p : List MemPlace} (hok : ∃ a len cap, v = .slice a len cap)
    (h : DataW.Trod enc Tryz.prog W 0 (fun _ => true) true 24 v d p) (hlt : ∀ x ∈ p, x.block < W.heap.size) :
    ∃ (a : Option Addr) (cap : Nat) (l : List Int), v = .slice a l.length cap ∧ IntV W.heap.size W a cap l ∧ okI l := by
  obtain ⟨a0, len, cap, rfl⟩ := hok
  obtain ⟨fuel, hf⟩ := h
  rcases open_ints Tryz.underlying24 Tryz.underlying3 cellsInt_1 hf with ⟨hcs, _⟩ | ⟨a, len', cap', zs, hcs, _, hl, hm, hz, hx, hcell, hwf⟩
  · simp [Value.cells] at hcs
    obtain ⟨rfl, rfl, rfl⟩ := hcs
    exact ⟨none, 0, [], rfl, ⟨Nat.le_refl _, Nat.zero_le _, fun _ => rfl, fun h => absurd rfl h⟩, fun x h => by cases h⟩
  · simp [Value.cells] at hcs
    obtain ⟨rfl, rfl, rfl⟩ := hcs
    simp only [if_true] at hz
    obtain ⟨rfl, rfl⟩ := Prod.mk.inj hx
    have hlen : (zs.take len).length = len := by rw [List.length_take]; omega
    refine ⟨some a, cap, zs.take len, by rw [hlen], ⟨by rw [hlen]; exact hl, hm, (fun h => by cases h), fun hn => ?_⟩, fun x hx => wf_i64 (hwf x (List.mem_of_mem_take hx))⟩
    obtain ⟨b, off, spot⟩ := a
    have h0 : 0 < zs.length := by
      have := List.length_pos_iff.2 hn
      rw [hlen] at this
      omega
    have hspot : spot = none := by simpa [Addr.add] using World.cell?_spot (hcell 0 h0)
    subst hspot
    refine ⟨b, off, rfl, hlt (.cell b off) (MemPlace.mem_row.2 ⟨0, h0, by simp⟩), fun j x hx => ?_⟩
    have hj := ltI hx
    rw [hlen] at hj
    have hjz : j < zs.length := by omega
    have hc := hcell j hjz
    have e : zs.getD j 0 = x := by
      rw [List.getElem?_take, if_pos hj] at hx
      rw [List.getD_eq_getElem?_getD, hx]; rfl
    rw [e, add_plain] at hc
    exact hc

theorem weights_get {H : Type} {P : Program} : ∀ (ts : List TypeId) (ds : List (DataW H)) (i : Nat) (t : TypeId) (d : DataW H), ts[i]? = some t → ds[i]? = some d → ∀ x ∈ d.weights P t, x ∈ DataW.weightsEach P ts ds
  | [], _, _, _, _, h, _, _, _ => by simp at h
  | _ :: _, [], _, _, _, _, h, _, _ => by simp at h
  | t0 :: ts, d0 :: ds, 0, t, d, ht, hd, x, hx => by
    simp at ht hd; subst ht hd
    unfold DataW.weightsEach
    exact List.mem_append_left _ hx
  | t0 :: ts, d0 :: ds, i + 1, t, d, ht, hd, x, hx => by
    unfold DataW.weightsEach
    exact List.mem_append_right _ (weights_get ts ds i t d (by simpa using ht) (by simpa using hd) x hx)
theorem bytesInt : Tryz.prog.bytesOf 3 = 8 := by kernel_rfl
/-- a list of ints that came in is shorter than 2^44 -/
theorem open_reach {H : Type} {enc : TypeId × Value → H} {W : World} {a : Option Addr} {len cap : Nat} {d : DataW H} {p : List MemPlace}
    (h : DataW.Trod enc Tryz.prog W 0 (fun _ => true) true 24 (.slice a len cap) d p) (hw : ∀ x ∈ d.weights Tryz.prog 24, x ≤ reachBytes) : len ≤ 17592186043904 := by
  obtain ⟨fuel, hf⟩ := h
  rcases open_ints Tryz.underlying24 Tryz.underlying3 cellsInt_1 hf with ⟨hcs, _⟩ | ⟨a, len', cap', zs, hcs, _, hl, hm, hz, hx, hcell, hwf⟩
  · simp [Value.cells] at hcs
    omega
  · simp [Value.cells] at hcs
    obtain ⟨rfl, rfl, rfl⟩ := hcs
    simp only [if_true] at hz
    obtain ⟨rfl, rfl⟩ := Prod.mk.inj hx
    have h1 := hw ((zs.take len).length * 8 + (zs.drop len).length * 8) (by
      unfold DataW.weights
      rw [Tryz.underlying24]
      simp only [lits, List.length_map, bytesInt]
      rw [← Nat.add_mul]
      exact List.mem_cons_self ..)
    unfold reachBytes at h1
    rw [List.length_take] at h1
    omega
end Go.Proofs.YtfgoflaeclfggaaGreatDoor
end
section
namespace Go.Proofs.YtfgoflaeclfggaaGreatDoor
open Go.ChangeShapes Go.WideShapes Go.ChangeAt Go.RowKit WordM NatM

theorem seven {α : Type} : ∀ {l : List α}, l.length = 7 → ∃ a b c d e f g, l = [a, b, c, d, e, f, g]
  | [a, b, c, d, e, f, g], _ => ⟨a, b, c, d, e, f, g, rfl⟩
theorem cellsIs1 : Tryz.prog.cellsOf 24 = 1 := by kernel_rfl
theorem cellsNw1 : Tryz.prog.cellsOf 26 = 1 := by kernel_rfl
theorem cellsSw1 : Tryz.prog.cellsOf 9 = 1 := by kernel_rfl
theorem cellsOpw7 : Tryz.prog.cellsOf 28 = 7 := by kernel_rfl
section
variable {H : Type} {enc : TypeId × Value → H} {W : World}
theorem opw_nat {n : Nat} {c : Value} {y : DataW H × List MemPlace} (h : DataW.trod enc Tryz.prog W 0 (fun _ => true) true n 26 [c] = some y) (hlt : ∀ x ∈ y.2, x.block < W.heap.size) :
    ∃ (a : Option Addr) (cap : Nat) (l : List Nat), c = .slice a l.length cap ∧ NatV W.heap.size W a cap l := by
  have hs : ∃ a len cap, c = .slice a len cap := by
    rcases Go.Deep.open_slice Tryz.underlying26 h with ⟨hcs, _⟩ | ⟨a, len, cap, _, _, _, _, hcs, _⟩
    · exact ⟨none, 0, 0, by simpa using hcs⟩
    · exact ⟨some a, len, cap, by simpa using hcs⟩
  refine open_nat (enc := enc) (d := y.1) (p := y.2) hs ⟨n, ?_⟩ hlt
  obtain ⟨a, len, cap, rfl⟩ := hs
  simpa [Value.cells] using h
theorem opw_ints {n : Nat} {c : Value} {y : DataW H × List MemPlace} (h : DataW.trod enc Tryz.prog W 0 (fun _ => true) true n 24 [c] = some y) (hlt : ∀ x ∈ y.2, x.block < W.heap.size) (hw : ∀ x ∈ y.1.weights Tryz.prog 24, x ≤ reachBytes) :
    ∃ (a : Option Addr) (cap : Nat) (l : List Int), c = .slice a l.length cap ∧ IntV W.heap.size W a cap l ∧ okI l ∧ l.length ≤ 17592186043904 := by
  have hs : ∃ a len cap, c = .slice a len cap := by
    rcases Go.Deep.open_slice Tryz.underlying24 h with ⟨hcs, _⟩ | ⟨a, len, cap, _, _, _, _, hcs, _⟩
    · exact ⟨none, 0, 0, by simpa using hcs⟩
    · exact ⟨some a, len, cap, by simpa using hcs⟩
  have ht : DataW.Trod enc Tryz.prog W 0 (fun _ => true) true 24 c y.1 y.2 := by
    refine ⟨n, ?_⟩
    obtain ⟨a, len, cap, rfl⟩ := hs
    simpa [Value.cells] using h
  obtain ⟨a, cap, l, rfl, h1, h2⟩ := open_intl hs ht hlt
  exact ⟨a, cap, l, rfl, h1, h2, open_reach ht hw⟩
theorem opw_int {n : Nat} {c : Value} {y : DataW H × List MemPlace} (h : DataW.trod enc Tryz.prog W 0 (fun _ => true) true n 3 [c] = some y) : ∃ x : Int, c = .int .i64 x ∧ x ≤ 9223372036854775807 := by
  obtain ⟨x, hx, _, hw⟩ := DataW.trod_int Tryz.underlying3 h
  exact ⟨x, by simpa using hx, (wf_i64 hw).2⟩
/-- what an op's cells hold -/
structure InOw (w : World) (o : Ow) : Prop where
  a : IntV w.heap.size w o.p o.c o.l
  v : IntV w.heap.size w o.q o.e o.m
  i : NatV w.heap.size w o.r o.f o.b
  la : o.l.length ≤ 17592186043904
  lv : o.m.length ≤ 17592186043904
  n : o.n ≤ 9223372036854775807
  s : o.s.size ≤ maxLen
theorem InOw.ok {w : World} {o : Ow} (h : InOw w o) : OkOw w o := ⟨h.a, h.v, h.i, h.la, h.lv, h.n, h.s⟩
theorem opw_cells {fuel : Nat} {cs : List Value} {y : DataW H × List MemPlace} (h : DataW.trod enc Tryz.prog W 0 (fun _ => true) true fuel 28 cs = some y) (hlt : ∀ x ∈ y.2, x.block < W.heap.size) (hw : ∀ x ∈ y.1.weights Tryz.prog 28, x ≤ reachBytes) :
    ∃ o : Ow, cs = o.row ∧ InOw W o := by
  obtain ⟨ys, n, _, hy, hlen, hyl, hf⟩ := DataW.trod_struct Tryz.underlying28 h
  rw [cellsOpw7] at hlen
  obtain ⟨c0, c1, c2, c3, c4, c5, c6, rfl⟩ := seven hlen
  obtain ⟨y0, y1, y2, y3, y4, y5, y6, rfl⟩ := seven (show ys.length = 7 from hyl)
  have k0 : DataW.trod enc Tryz.prog W 0 (fun _ => true) true n 3 (([c0, c1, c2, c3, c4, c5, c6].drop 0).take (Tryz.prog.cellsOf 3)) = some y0 := hf 0 _ rfl
  have k1 : DataW.trod enc Tryz.prog W 0 (fun _ => true) true n 3 (([c0, c1, c2, c3, c4, c5, c6].drop 1).take (Tryz.prog.cellsOf 3)) = some y1 := hf 1 _ rfl
  have k2 : DataW.trod enc Tryz.prog W 0 (fun _ => true) true n 3 (([c0, c1, c2, c3, c4, c5, c6].drop 2).take (Tryz.prog.cellsOf 3)) = some y2 := hf 2 _ rfl
  have k3 : DataW.trod enc Tryz.prog W 0 (fun _ => true) true n 24 (([c0, c1, c2, c3, c4, c5, c6].drop 3).take (Tryz.prog.cellsOf 24)) = some y3 := hf 3 _ rfl
  have k4 : DataW.trod enc Tryz.prog W 0 (fun _ => true) true n 24 (([c0, c1, c2, c3, c4, c5, c6].drop 4).take (Tryz.prog.cellsOf 24)) = some y4 := hf 4 _ rfl
  have k5 : DataW.trod enc Tryz.prog W 0 (fun _ => true) true n 26 (([c0, c1, c2, c3, c4, c5, c6].drop 5).take (Tryz.prog.cellsOf 26)) = some y5 := hf 5 _ rfl
  have k6 : DataW.trod enc Tryz.prog W 0 (fun _ => true) true n 9 (([c0, c1, c2, c3, c4, c5, c6].drop 6).take (Tryz.prog.cellsOf 9)) = some y6 := hf 6 _ rfl
  have hw3 : ∀ x ∈ y3.1.weights Tryz.prog 24, x ≤ reachBytes := fun x hx => hw x (by
    rw [hy]
    unfold DataW.weights
    rw [Tryz.underlying28]
    exact weights_get _ _ 3 _ _ rfl rfl x hx)
  have hw4 : ∀ x ∈ y4.1.weights Tryz.prog 24, x ≤ reachBytes := fun x hx => hw x (by
    rw [hy]
    unfold DataW.weights
    rw [Tryz.underlying28]
    exact weights_get _ _ 4 _ _ rfl rfl x hx)
  rw [cellsInt_1] at k0 k1 k2
  rw [cellsIs1] at k3 k4
  rw [cellsNw1] at k5
  rw [cellsSw1] at k6
  have hin : ∀ z : DataW H × List MemPlace, z ∈ [y0, y1, y2, y3, y4, y5, y6] → ∀ x ∈ z.2, x.block < W.heap.size := fun z hz x hx => hlt x (by rw [hy]; exact List.mem_flatMap.2 ⟨z, hz, hx⟩)
  obtain ⟨x0, rfl, _⟩ := opw_int (c := c0) k0
  obtain ⟨x1, rfl, _⟩ := opw_int (c := c1) k1
  obtain ⟨x2, rfl, hx2⟩ := opw_int (c := c2) k2
  obtain ⟨p3, e3, l3, rfl, h3, _, b3⟩ := opw_ints (c := c3) k3 (hin y3 (by simp)) hw3
  obtain ⟨p4, e4, l4, rfl, h4, _, b4⟩ := opw_ints (c := c4) k4 (hin y4 (by simp)) hw4
  obtain ⟨p5, e5, l5, rfl, h5⟩ := opw_nat (c := c5) k5 (hin y5 (by simp))
  obtain ⟨s, hs, hs2⟩ := DataW.trod_string Tryz.underlying9 k6
  obtain rfl : c6 = .string s := by simpa using hs
  exact ⟨⟨x0, x1, x2, p3, p4, p5, e3, e4, e5, l3, l4, l5, s⟩, rfl, h3, h4, h5, b3, b4, hx2, by first | exact hs2 | exact hs2.2 | exact hs2.1⟩
end
end Go.Proofs.YtfgoflaeclfggaaGreatDoor
end
section
namespace Go.Proofs.YtfgoflaeclfggaaGreatDoor
open Go.ChangeShapes Go.WideShapes Go.ChangeAt Go.RowKit WordM NatM

/-- The list of ops in memory. -/
def Opsw (w : World) (a : Option Addr) (n cap : Nat) (nd : Nat → Ow) : Prop :=
  n ≤ cap ∧ ∀ j, j < n → ∃ b off, a = some ⟨b, off, none⟩ ∧ b < w.heap.size ∧ (∀ i z, (nd j).row[i]? = some z → w.cell? ⟨b, off + j * 7 + i, none⟩ = some z) ∧ OkOw w (nd j)
theorem weights_all {H : Type} {P : Program} {e : TypeId} : ∀ (l : List (DataW H)) (d : DataW H), d ∈ l → ∀ x ∈ d.weights P e, x ∈ DataW.weightsAll P e l
  | [], _, h, _, _ => by cases h
  | d0 :: r, d, h, x, hx => by
    unfold DataW.weightsAll
    rcases List.mem_cons.1 h with rfl | h
    · exact List.mem_append_left _ hx
    · exact List.mem_append_right _ (weights_all r d h x hx)
/-- The argument, a slice of ops. -/
theorem open_opsw {H : Type} {enc : TypeId × Value → H} {W : World} {v : Value} {d : DataW H} {p : List MemPlace} (hok : ∃ a len cap, v = .slice a len cap)
    (h : DataW.Trod enc Tryz.prog W 0 (fun _ => true) true 22 v d p) (hlt : ∀ x ∈ p, x.block < W.heap.size) (hw : ∀ x ∈ d.weights Tryz.prog 22, x ≤ reachBytes) :
    ∃ (a : Option Addr) (n cap : Nat) (nd : Nat → Ow), v = .slice a n cap ∧ cap ≤ maxLen ∧ Opsw W a n cap nd := by
  obtain ⟨a0, len, cap, rfl⟩ := hok
  obtain ⟨fuel, hf⟩ := h
  rcases Go.Deep.open_slice Tryz.underlying22 hf with ⟨hcs, hx⟩ | ⟨a, len', cap', m, n, D, Pl, hcs, _, hl, hm, hmm, hx, hi⟩
  · simp [Value.cells] at hcs
    obtain ⟨rfl, rfl, rfl⟩ := hcs
    exact ⟨none, 0, 0, fun _ => ⟨0, 0, 0, none, none, none, 0, 0, 0, [], [], [], .empty⟩, rfl, Nat.zero_le _, Nat.le_refl _, fun j hj => absurd hj (Nat.not_lt_zero j)⟩
  · simp [Value.cells] at hcs
    obtain ⟨rfl, rfl, rfl⟩ := hcs
    simp only [if_true] at hmm
    subst hmm
    rw [cellsOpw7] at hx hi
    obtain ⟨rfl, rfl⟩ := Prod.mk.inj hx
    have key : ∀ i, i < len → ∃ x : Ow, (∀ j z, x.row[j]? = some z → W.cell? ((a.add (i * 7)).add j) = some z) ∧ OkOw W x := by
      intro i hic
      obtain ⟨cs', hc, ht⟩ := hi i (by omega)
      obtain ⟨x, rfl, h1⟩ := opw_cells ht (fun x hx => hlt x (List.mem_append_right _ (List.mem_flatMap.2 ⟨i, List.mem_range.2 (by omega), hx⟩))) (fun x hx => hw x (by
        unfold DataW.weights
        rw [Tryz.underlying22]
        exact List.mem_cons_of_mem _ (List.mem_append_left _ (weights_all _ _ (List.mem_map.2 ⟨i, List.mem_range.2 hic, rfl⟩) x hx))))
      obtain ⟨_, hcl, hat⟩ := World.cells?_some hc
      exact ⟨x, fun j z hz => (hat j (by have := (List.getElem?_eq_some_iff.1 hz).1; simpa [Ow.row] using this)).trans hz, h1.ok⟩
    obtain ⟨nd, hnd⟩ := @Go.Deep.choose_lt Ow ⟨⟨0, 0, 0, none, none, none, 0, 0, 0, [], [], [], .empty⟩⟩ _ _ key
    refine ⟨some a, _, m, nd, rfl, hm, hl, fun j hj => ?_⟩
    obtain ⟨hc, h1⟩ := hnd j (by omega)
    obtain ⟨b, off, spot⟩ := a
    have hspot : spot = none := by simpa [Addr.add] using World.cell?_spot ((hnd 0 (by omega)).1 0 _ rfl)
    subst hspot
    simp only [add_plain] at hc
    exact ⟨b, off, rfl, hlt (.cell b off) (List.mem_append_left _ (MemPlace.mem_row.2 ⟨0, by omega, by simp⟩)), hc, h1⟩
end Go.Proofs.YtfgoflaeclfggaaGreatDoor
end
section
namespace Go.Proofs.YtfgoflaeclfggaaGreatDoor
open Go.RowKit NatM

/-- Numbers that are known in the world wx, each with a bound of its length; below w nothing has changed. -/
structure St (w wx : World) (L : List (Nt × Nat)) : Prop where
  each : ∀ x : Nt × Nat, x ∈ L → NatV wx.heap.size wx x.1.1 x.1.2.1 x.1.2.2 ∧ x.1.2.2.length ≤ x.2
  below : Below w.heap.size w wx
theorem St.get {w wx : World} {L : List (Nt × Nat)} (S : St w wx L) {i : Nat} {p : Option Addr} {c : Nat} {l : List Nat} {k : Nat} (h : L[i]? = some ((p, c, l), k)) : NatV wx.heap.size wx p c l ∧ l.length ≤ k :=
  S.each _ (List.mem_of_getElem? h)
theorem St.next {w wx w' : World} {L : List (Nt × Nat)} (S : St w wx L) (hb : Below wx.heap.size wx w') : St w w' L :=
  ⟨fun x hx => ⟨(S.each x hx).1.next hb, (S.each x hx).2⟩, S.below.trans (hb.mono S.below.size)⟩
theorem St.push {w wx w' : World} {L : List (Nt × Nat)} (S : St w wx L) (hb : Below wx.heap.size wx w') {p : Option Addr} {c : Nat} {l : List Nat} {k : Nat} (h : NatV w'.heap.size w' p c l) (hl : l.length ≤ k) : St w w' (((p, c, l), k) :: L) :=
  ⟨fun x hx => by
    rcases List.mem_cons.1 hx with rfl | hx
    · exact ⟨h, hl⟩
    · exact (S.next hb).each x hx, (S.next hb).below⟩
theorem St.alloc {w wx : World} {L : List (Nt × Nat)} (S : St w wx L) (o : Obj) : St w (wx.alloc o) L := S.next ((Below.refl _ _).alloc (Nat.le_refl _) _)
/-- a literal of limbs, just laid -/
theorem St.lit {w wx : World} {L : List (Nt × Nat)} (S : St w wx L) (l : List Nat) (cs : Array Value) (t : TypeId) (hc : cs.toList = cells32 l) (hl : l.length ≤ 1000) (ok : ok32 l) :
    St w (wx.alloc (.cells cs t)) (((some ⟨wx.heap.size, 0, none⟩, l.length, l), l.length) :: L) :=
  S.push ((Below.refl _ _).alloc (Nat.le_refl _) _) (NatV.laid l cs t hc hl ok) (Nat.le_refl _)
theorem NatV.nothing (w : World) : NatV w.heap.size w none 0 [] := ⟨okB_nil _, Nat.le_refl _, Nat.zero_le _, fun _ => rfl, fun h => absurd rfl h⟩

theorem len_of {l : List Nat} (ho : ok32 l) {k : Nat} (hl : l.length ≤ k) : V32 l < 4294967296 ^ k := Nat.lt_of_lt_of_le (V32_lt ho) (Nat.pow_le_pow_right (by omega) hl)
theorem len_add {a b j k : Nat} (ha : a < 4294967296 ^ j) (hb : b < 4294967296 ^ k) : (D32 (a + b)).length ≤ max j k + 1 := by
  apply D32_len
  rw [Nat.pow_succ]
  have h1 : 4294967296 ^ j ≤ 4294967296 ^ max j k := Nat.pow_le_pow_right (by omega) (by omega)
  have h2 : 4294967296 ^ k ≤ 4294967296 ^ max j k := Nat.pow_le_pow_right (by omega) (by omega)
  omega
theorem len_mul {a b j k : Nat} (ha : a < 4294967296 ^ j) (hb : b < 4294967296 ^ k) : (D32 (a * b)).length ≤ j + k := by
  apply D32_len
  rw [Nat.pow_add]
  exact Nat.mul_lt_mul_of_lt_of_lt ha hb

def AddsPost (w : World) (L : List (Nt × Nat)) (N k : Nat) (e : Ending) (w' : World) : Prop :=
  ∃ p c, e = .returned (.slice p (D32 N).length c) ∧ St w w' (((p, c, D32 N), k) :: L)
def StPost (w : World) (L : List (Nt × Nat)) (v : Value) (e : Ending) (w' : World) : Prop := e = .returned v ∧ St w w' L

theorem St.tells {w wx : World} {L : List (Nt × Nat)} (S : St w wx L) {f : FuncId} {args : Array Value} {v : Value} (h : Calls Tryz.prog f args wx (Tells v wx)) : Calls Tryz.prog f args wx (StPost w L v) :=
  h.mono fun _ _ ⟨he, hb⟩ => ⟨he, S.next hb⟩
theorem St.makes {w wx : World} {L : List (Nt × Nat)} (S : St w wx L) {f : FuncId} {args : Array Value} {N k : Nat} (h : Calls Tryz.prog f args wx (NatPost wx N)) (hk : (D32 N).length ≤ k) : Calls Tryz.prog f args wx (AddsPost w L N k) :=
  h.mono fun _ _ ⟨p, c, he, ho, hb⟩ => ⟨p, c, he, S.push hb ho.toV hk⟩

theorem St.add {w wx : World} {L : List (Nt × Nat)} (S : St w wx L) (i i' N : Nat) {p q : Option Addr} {n n' c d : Nat} {l m : List Nat} {j k : Nat} (hi : L[i]? = some ((p, c, l), j)) (hi' : L[i']? = some ((q, d, m), k))
    (hj : j ≤ 100000) (hk : k ≤ 100000) (hN : V32 l + V32 m = N) (hn : n = l.length) (hn' : n' = m.length) : Calls Tryz.prog 71 #[.slice p n c, .slice q n' d] wx (AddsPost w L N (max j k + 1)) := by
  subst hN hn hn'
  exact S.makes (add_any p q c d l m wx (S.get hi).1 (S.get hi').1 (Nat.le_trans (S.get hi).2 hj) (Nat.le_trans (S.get hi').2 hk)) (len_add (len_of (S.get hi).1.ok (S.get hi).2) (len_of (S.get hi').1.ok (S.get hi').2))
theorem St.mul {w wx : World} {L : List (Nt × Nat)} (S : St w wx L) (i i' N : Nat) {p q : Option Addr} {n n' c d : Nat} {l m : List Nat} {j k : Nat} (hi : L[i]? = some ((p, c, l), j)) (hi' : L[i']? = some ((q, d, m), k))
    (hj : j ≤ 100000) (hk : k ≤ 100000) (hN : V32 l * V32 m = N) (hn : n = l.length) (hn' : n' = m.length) : Calls Tryz.prog 72 #[.slice p n c, .slice q n' d] wx (AddsPost w L N (j + k)) := by
  subst hN hn hn'
  exact S.makes (mul_any p q c d l m wx (S.get hi).1 (S.get hi').1 (Nat.le_trans (S.get hi).2 hj) (Nat.le_trans (S.get hi').2 hk)) (len_mul (len_of (S.get hi).1.ok (S.get hi).2) (len_of (S.get hi').1.ok (S.get hi').2))
theorem St.nats {w wx : World} {L : List (Nt × Nat)} (S : St w wx L) (i i' : Nat) {p q : Option Addr} {n n' c d : Nat} {l m : List Nat} {j k : Nat} (hi : L[i]? = some ((p, c, l), j)) (hi' : L[i']? = some ((q, d, m), k))
    (hlm : l = m) (hn : n = l.length) (hn' : n' = m.length) : Calls Tryz.prog 26 #[.slice p n c, .slice q n' d] wx (StPost w L (.bool true)) := by
  subst hlm
  exact S.tells (nats_eq p q n n' c d l wx hn hn' (S.get hi).1 (S.get hi').1)
theorem St.cmp {w wx : World} {L : List (Nt × Nat)} (S : St w wx L) (i i' : Nat) {p q : Option Addr} {n n' c d : Nat} {l m : List Nat} {j k : Nat} (hi : L[i]? = some ((p, c, l), j)) (hi' : L[i']? = some ((q, d, m), k))
    (hn : n = l.length) (hn' : n' = m.length) (r : Int) (hr : cmpN (V32 l) (V32 m) = r) : Calls Tryz.prog 77 #[.slice p n c, .slice q n' d] wx (StPost w L (.int .i64 r)) := by
  subst hn hn' hr
  exact S.tells (cmp_any p q c d l m wx (S.get hi).1 (S.get hi').1)
/-- the sum of numbers that stand in a literal, just laid -/
theorem St.sum {w wx : World} {L : List (Nt × Nat)} (S : St w wx L) (K : List Nt) (cs : Array Value) (t : TypeId) (hc : cs.toList = K.map Nt.val) (hl : K.length ≤ 1000) (M : Nat) (hM : M ≤ 100000) (h : ∀ x : Nt, x ∈ K → ∃ k, (x, k) ∈ L ∧ k ≤ M) (N : Nat) (hN : sumV K = N) {n c : Nat} (hn : n = K.length) (hcap : c = K.length) :
    Calls Tryz.prog 121 #[.slice (some ⟨wx.heap.size, 0, none⟩) n c] (wx.alloc (.cells cs t)) (AddsPost w L N (M + 1)) := by
  subst hN hcap
  have hx : ∀ x : Nt, x ∈ K → NatV wx.heap.size wx x.1 x.2.1 x.2.2 ∧ x.2.2.length ≤ M := fun x hx => by
    obtain ⟨k, hk, hkM⟩ := h x hx
    exact ⟨(S.each _ hk).1, Nat.le_trans (S.each _ hk).2 hkM⟩
  exact (S.alloc _).makes (sum_any _ n _ K _ hn (NatsV.laid K cs t hc hl fun x h => (hx x h).1) hl fun x h => Nat.le_trans (hx x h).2 hM)
    (sumV_len (fun x h => ⟨(hx x h).1.ok, (hx x h).2⟩) hl)
/-- a list with better bounds -/
theorem St.bound {w wx : World} {L L' : List (Nt × Nat)} (S : St w wx L) (h : ∀ x : Nt × Nat, x ∈ L' → (∃ k, (x.1, k) ∈ L) ∧ x.1.2.2.length ≤ x.2) : St w wx L' :=
  ⟨fun x hx => by
    obtain ⟨⟨k, hk⟩, hl⟩ := h x hx
    exact ⟨(S.each _ hk).1, hl⟩, S.below⟩
end Go.Proofs.YtfgoflaeclfggaaGreatDoor
end
section
namespace Go.Proofs.YtfgoflaeclfggaaGreatDoor
open Go.RowKit NatM

/-- a lent list: its block holds it, and the two marks behind -/
def LentB (w : World) (g : Nat) (l : List Nat) : Prop := w.heap[g]? = some (.cells (cells32 (l ++ [7001, 7002])).toArray 51 (0, 0))
theorem LentB.lt {w : World} {g : Nat} {l : List Nat} (h : LentB w g l) : g < w.heap.size := heap_ltN h
theorem LentB.cell {w : World} {g : Nat} {l : List Nat} (h : LentB w g l) {j x : Nat} (hx : (l ++ [7001, 7002])[j]? = some x) : w.cell? ⟨g, j, none⟩ = some (.int .u32 (x : Int)) := by
  rw [cell_of_row w g j _ _ _ h, List.getElem?_toArray]
  exact cells32_get hx
theorem LentB.block {w w' : World} {g : Nat} {l : List Nat} (hb : w'.heap[g]? = w.heap[g]?) (h : LentB w g l) : LentB w' g l := hb.trans h
theorem LentB.below {w w' : World} {g : Nat} {l : List Nat} (hb : Below w.heap.size w w') (h : LentB w g l) : LentB w' g l := h.block (hb.block g h.lt)
theorem LentB.own {w : World} {g base : Nat} {l : List Nat} (hB : base ≤ g) (ok : ok32 l) (hl : l.length ≤ 100000) (h : LentB w g l) : NatO base w (some ⟨g, 0, none⟩) (l.length + 2) l := by
  refine ⟨⟨by rw [cells32_length, Nat.mul_one], Or.inr ⟨g, l.length + 2, _, rfl, hB, h, by omega, by unfold maxLen; omega, by simp [cells32], ?_⟩⟩, ok⟩
  rw [List.toList_toArray, Nat.mul_one]
  unfold cells32
  rw [List.map_append, List.take_left' (by simp)]
theorem LentB.of_own {w : World} {g base : Nat} {l : List Nat} (h : NatO base w (some ⟨g, 0, none⟩) l.length l) (hfull : ∃ m, l = m ++ [7001, 7002]) : ∃ m, l = m ++ [7001, 7002] ∧ LentB w g m := by
  obtain ⟨m, rfl⟩ := hfull
  refine ⟨m, rfl, ?_⟩
  obtain ⟨hx, h1 | ⟨g', cap, cur, hv, hg, hh, hc, hm, hs, ht⟩⟩ := h.own
  · simp at h1
  · obtain ⟨rfl, rfl⟩ : g = g' ∧ (m ++ [7001, 7002]).length = cap := by simpa using hv
    unfold LentB
    rw [hh]
    congr 2
    rw [← Array.toList_inj, List.toList_toArray, ← ht, Nat.mul_one, List.take_of_length_le (by rw [Array.length_toList]; omega)]

def LentPost (w : World) (l : List Nat) (e : Ending) (w' : World) : Prop :=
  e = .returned (.slice (some ⟨w.heap.size, 0, none⟩) l.length (l.length + 2)) ∧ LentB w' w.heap.size l ∧ Below w.heap.size w w'
theorem splice_zero (cs : List Value) (n : Nat) (v : Value) : splice (List.replicate n v) 0 cs = cs ++ List.replicate (n - cs.length) v := by
  unfold splice
  simp
theorem size32 : (Tryz.prog.info? 51).map (·.size) = some 1 := by kernel_rfl

set_option maxRecDepth 100000 in
set_option maxHeartbeats 1000000 in
theorem lent_any (p : Option Addr) (cap : Nat) (l : List Nat) (w : World) (h : NatV w.heap.size w p cap l) (hl : l.length ≤ 1000) :
    Calls Tryz.prog 7 #[.slice p l.length cap] w (LentPost w l) := by
  obtain ⟨n, hn⟩ : ∃ n, n = l.length + 2 := ⟨_, rfl⟩
  have hmk := make32 n (by omega)
  have hn2 : (l.length : Int) + 2 = (n : Int) := by omega
  have H := Lib.hid (And.intro h hn)
  have hln : l.length < n := by omega
  have hln1 : l.length + 1 < n := by omega
  have hnb : n ≤ 1002 := by omega
  clear h hn
  go_enter Tryz.func7, Tryz.ntmps7
  have hB1 : Below w.heap.size w (w.alloc (.cells (madeCells #[.int .u32 0] n) 51)) := (Below.refl _ _).alloc (Nat.le_refl _) _
  have HB1 := Lib.hid hB1
  have hh : (w.alloc (.cells (madeCells #[.int .u32 0] n) 51)).heap[w.heap.size]? = some (.cells (List.replicate n (Value.int .u32 0)).toArray 51 (0, 0)) := by
    rw [heap_newN, ← madeCells_list]
  have HHH := Lib.hid hh
  clear hB1 hh
  go_wp2_with (with_reducible refine wpList_copy_splice rfl (.tmp 8) (.tmp 9) 26 26 rfl 51 Tryz.underlying26 size32 (some ⟨w.heap.size, 0, none⟩) p n n l.length cap rfl rfl w.heap.size 0 (List.replicate n (Value.int .u32 0)) 51 HHH.out (cells32 l) ?k1 ?k2 ?k3 ?k4 w.heap.size w HB1.out (Nat.le_refl _) ?_)
  case k1 => rw [cells32_length]; exact (Nat.min_eq_left (by omega)).symm
  case k2 =>
    intro hpos
    rw [cells32_length] at hpos
    obtain ⟨b, off, rfl, hb, hc⟩ := H.out.1.cell (List.length_pos_iff.1 hpos)
    refine ⟨_, rfl, fun j v hv => ?_⟩
    rw [add_off]
    unfold cells32 at hv
    rw [List.getElem?_map] at hv
    obtain ⟨x, hx, rfl⟩ := Option.map_eq_some_iff.1 hv
    exact (HB1.out.cell (p := ⟨b, off + j, none⟩) hb).trans (hc j x hx)
  case k3 => rw [cells32_length, List.length_replicate]; omega
  case k4 =>
    intro v hv
    unfold cells32 at hv
    obtain ⟨x, _, rfl⟩ := List.mem_map.1 hv
    rfl
  intro w1 hw1 hb1
  have hn0 : n = l.length + 2 := H.out.2
  have hw2 : w1.heap[w.heap.size]? = some (.cells (cells32 l ++ [Value.int .u32 0, Value.int .u32 0]).toArray 51 (0, 0)) := by
    have h := hw1.out
    rw [splice_zero, cells32_length, show n - l.length = 2 by omega] at h
    exact h
  have hc1 : w1.cell? ⟨w.heap.size, l.length, none⟩ = some (.int .u32 0) := by
    rw [cell_of_row w1 _ _ _ _ _ hw2, List.getElem?_toArray, List.getElem?_append_right (by rw [cells32_length]; exact Nat.le_refl _), cells32_length, Nat.sub_self]
    rfl
  have hc2 : w1.cell? ⟨w.heap.size, l.length + 1, none⟩ = some (.int .u32 0) := by
    rw [cell_of_row w1 _ _ _ _ _ hw2, List.getElem?_toArray, List.getElem?_append_right (by rw [cells32_length]; omega), cells32_length, show l.length + 1 - l.length = 1 by omega]
    rfl
  have hf1 : ∀ j, w1.frozen? ⟨w.heap.size, j, none⟩ = false := fun j => frozen_of_row w1 w.heap.size j _ _ hw2
  have hff1 := hf1 l.length
  have hff2 := hf1 (l.length + 1)
  have hnn : n ≤ l.length + 2 := by omega
  have hB2 : Below w.heap.size w ((w1.setCell ⟨w.heap.size, l.length, none⟩ (.int .u32 7001)).setCell ⟨w.heap.size, l.length + 1, none⟩ (.int .u32 7002)) := (hb1.setCell (p := ⟨w.heap.size, l.length, none⟩) (Nat.le_refl _) _).setCell (p := ⟨w.heap.size, l.length + 1, none⟩) (Nat.le_refl _) _
  have hL : LentB ((w1.setCell ⟨w.heap.size, l.length, none⟩ (.int .u32 7001)).setCell ⟨w.heap.size, l.length + 1, none⟩ (.int .u32 7002)) w.heap.size l := by
    unfold LentB
    rw [heap_setCell_same _ w.heap.size (l.length + 1) _ _ _ (heap_setCell_same w1 w.heap.size l.length _ _ _ hw2)]
    congr 2
    rw [← Array.toList_inj]
    simp only [Array.toList_setIfInBounds]
    rw [List.set_append_right _ _ (by rw [cells32_length]; exact Nat.le_refl _), List.set_append_right _ _ (by rw [cells32_length]; omega), cells32_length, Nat.sub_self, show l.length + 1 - l.length = 1 by omega]
    simp [cells32]
  have HF := Lib.hid (And.intro hL hB2)
  clear hw1 hb1 hw2 hf1 hn0 hL hB2 hmk HB1 HHH
  go_wp2_with fail
  go_ret
  exact ⟨by rw [H.out.2]; rfl, HF.out.1, HF.out.2⟩
set_option maxRecDepth 100000 in
set_option maxHeartbeats 1000000 in
theorem kept_any (g : Nat) (p : Option Addr) (n m c : Nat) (l : List Nat) (w : World) (hg : LentB w g l) (h : NatV w.heap.size w p c l) (hl : l.length ≤ 1000) (hn : n = l.length) (hm : m = l.length + 2) :
    Calls Tryz.prog 10 #[.slice (some ⟨g, 0, none⟩) n m, .slice p l.length c] w (Tells (.bool true) w) := by
  subst hn hm
  have hcap := h.cap
  unfold maxLen at hcap
  have hle := h.le
  have hsame := nats_same (some ⟨g, 0, none⟩) p (l.length + 2) c l w ((LentB.own (base := 0) (Nat.zero_le _) h.ok (by omega) hg).toV) h
  have HG := Lib.hid hg
  clear hg h
  go_enter Tryz.func10, Tryz.ntmps10
  go_wp2_with fail
  refine hsame.mono ?_
  clear hsame
  rintro e w1 ⟨rfl, hb1⟩
  have hc1 : w1.cell? ⟨g, l.length, none⟩ = some (.int .u32 7001) := (HG.out.below hb1).cell (by simp)
  have hc2 : w1.cell? ⟨g, l.length + 1, none⟩ = some (.int .u32 7002) := (HG.out.below hb1).cell (by rw [List.getElem?_append_right (by omega), show l.length + 1 - l.length = 1 by omega]; rfl)
  have HB := Lib.hid hb1
  clear hb1
  go_wp2_with fail
  go_ret
  exact ⟨rfl, HB.out⟩

end Go.Proofs.YtfgoflaeclfggaaGreatDoor
end
section
namespace Go.Proofs.YtfgoflaeclfggaaGreatDoor.apartI
open Go.RowKit

abbrev E : TypeId := 3
theorem infoE : (Tryz.prog.info? 3).map (fun i => (i.zero, i.size, i.bytes)) = some (some (.int .i64 0), 1, 8) := by kernel_rfl
theorem infoS : (Tryz.prog.info? 24).map (fun i => (i.zero, i.size, i.bytes)) = some (some (.slice none 0 0), 1, 24) := by kernel_rfl
/-- the marks -/
def m1 (i : Nat) : Value := .int .i64 (-2 * (i : Int) - 1)
def m2 (i : Nat) : Value := .int .i64 (-2 * (i : Int) - 2)

/-- A list: its address, its capacity, its length. -/
abbrev Rw := Option Addr × Nat × Nat
def Rw.val (x : Rw) : Value := .slice x.1 x.2.2 x.2.1

/-! ### rows -/
theorem shape {w : World} {B : Nat} {e : TypeId} {a : Option Addr} {n c : Nat} {xs : List Value} (h : w.ownsRow B e 1 (.slice a n c) n xs) :
    (a = none ∧ n = 0 ∧ c = 0 ∧ xs = []) ∨ ∃ g, a = some ⟨g, 0, none⟩ ∧ B ≤ g ∧ g < w.heap.size ∧ n ≤ c ∧ c ≤ maxLen ∧ xs.length = n ∧ (∀ j, j < n → w.cell? ⟨g, j, none⟩ = xs[j]?) ∧ ∀ j, w.frozen? ⟨g, j, none⟩ = false := by
  have h0 := h
  obtain ⟨hx, h | ⟨g, cap, cur, hv, hg, hh, hc, hm, r⟩⟩ := h
  · obtain ⟨h1, h2⟩ := h
    simp only [Value.slice.injEq] at h1
    exact Or.inl ⟨h1.1, h2, h1.2.2, List.eq_nil_of_length_eq_zero (by omega)⟩
  · simp only [Value.slice.injEq] at hv
    obtain ⟨rfl, _, rfl⟩ := hv
    have hlt : g < w.heap.size := by
      rcases Nat.lt_or_ge g w.heap.size with k | k
      · exact k
      · simp [Array.getElem?_eq_none k] at hh
    exact Or.inr ⟨g, rfl, hg, hlt, hc, hm, by omega, fun j hj => h0.cellAt j (by omega), fun j => h0.frozenAt j⟩
theorem prefix_own {w : World} {B : Nat} {e : TypeId} {g n c k : Nat} {xs : List Value} (h : w.ownsRow B e 1 (.slice (some ⟨g, 0, none⟩) n c) n xs) (hk : k ≤ n) : w.ownsRow B e 1 (.slice (some ⟨g, 0, none⟩) k c) k (xs.take k) := by
  obtain ⟨hx, h | ⟨g', cap, cur, hv, hg, hh, hc, hm, hs, ht⟩⟩ := h
  · simp at h
  · simp only [Value.slice.injEq, Option.some.injEq, Addr.mk.injEq, and_true, true_and] at hv
    obtain ⟨rfl, rfl⟩ := hv
    refine ⟨by rw [List.length_take]; omega, Or.inr ⟨g, c, cur, rfl, hg, hh, by omega, hm, hs, ?_⟩⟩
    rw [← ht, List.take_take]
    congr 1
    omega
theorem same_cap {w : World} {B B' : Nat} {e e' : TypeId} {g n n' c c' : Nat} {xs xs' : List Value} (h : w.ownsRow B e 1 (.slice (some ⟨g, 0, none⟩) n c) n xs) (h' : w.ownsRow B' e' 1 (.slice (some ⟨g, 0, none⟩) n' c') n' xs') : c = c' := by
  obtain ⟨_, h | ⟨g1, c1, cur, hv, _, hh, _, _, hs, _⟩⟩ := h
  · simp at h
  obtain ⟨_, h' | ⟨g2, c2, cur', hv', _, hh', _, _, hs', _⟩⟩ := h'
  · simp at h'
  simp only [Value.slice.injEq, Option.some.injEq, Addr.mk.injEq, and_true, true_and] at hv hv'
  obtain ⟨rfl, rfl⟩ := hv
  obtain ⟨rfl, rfl⟩ := hv'
  rw [hh] at hh'
  injection hh' with hh'
  injection hh' with hcur
  subst hcur
  omega
theorem other_type {w : World} {b b' : Nat} {e e' : TypeId} {v v' : Value} {n n' : Nat} {xs xs' : List Value} (h : w.ownsRow b e 1 v n xs) (h' : w.ownsRow b' e' 1 v' n' xs') (hne : e ≠ e') : v.ownBlock = none ∨ v.ownBlock ≠ v'.ownBlock := by
  rcases h.2 with ⟨rfl, _⟩ | ⟨g, cap, cur, rfl, _, hh, _⟩
  · exact Or.inl rfl
  · right
    rcases h'.2 with ⟨rfl, _⟩ | ⟨g', cap', cur', rfl, _, hh', _⟩
    · simp [Value.ownBlock]
    · intro hq
      have : g = g' := by simpa [Value.ownBlock] using hq
      subst this
      rw [hh] at hh'
      injection hh' with hh'
      injection hh' with _ ht
      exact hne ht
theorem below_lt {w : World} {B : Nat} {e : TypeId} {v : Value} {n : Nat} {xs : List Value} (h : w.ownsRow B e 1 v n xs) : v.ownBlock = none ∨ ∃ b, v.ownBlock = some b ∧ B ≤ b ∧ b < w.heap.size := by
  cases hv : v.ownBlock with
  | none => exact Or.inl rfl
  | some b => exact Or.inr ⟨b, rfl, h.lt b hv⟩
theorem set_take {l : List Value} {k : Nat} {u : Value} (h : k < l.length) : (l.set k u).take (k + 1) = l.take k ++ [u] := by
  rw [List.take_succ_eq_append_getElem (by simpa using h), List.take_set_of_le (Nat.le_refl _)]
  simp

/-! ### the lists, and where they stand -/
def OwnAll (B : Nat) (w : World) (L : List Rw) (C : Nat → List Value) : Prop := ∀ (k : Nat) (x : Rw), L[k]? = some x → w.ownsRow B E 1 x.val x.2.2 (C k)
structure Sit (w : World) (Q qo : Nat) (L : List Rw) : Prop where
  lt : Q < w.heap.size
  cell : ∀ (j : Nat) (x : Rw), L[j]? = some x → w.cell? ⟨Q, qo + j, none⟩ = some x.val
structure Parts (L : List Rw) (Q : Nat) : Prop where
  two : ∀ (k k' : Nat) (x x' : Rw), L[k]? = some x → L[k']? = some x' → k ≠ k' → x.val.ownBlock = none ∨ x.val.ownBlock ≠ x'.val.ownBlock
  q : ∀ (k : Nat) (x : Rw), L[k]? = some x → x.val.ownBlock ≠ some Q
theorem Sit.kept {w w' : World} {Q qo : Nat} {L : List Rw} (h : Sit w Q qo L) {row : Option Nat} (hg : w.grownBy w' row) (hne : row ≠ some Q) : Sit w' Q qo L :=
  ⟨Nat.lt_of_lt_of_le h.lt hg.size, fun j x hx => (World.cell?_of_block (hg.block Q h.lt (Ne.symm hne))).trans (h.cell j x hx)⟩
theorem OwnAll.kept {B : Nat} {w w' : World} {L : List Rw} {C : Nat → List Value} (h : OwnAll B w L C) {row : Option Nat} (hg : w.grownBy w' row) (hne : ∀ (k : Nat) (x : Rw), L[k]? = some x → x.val.ownBlock = none ∨ x.val.ownBlock ≠ row) : OwnAll B w' L C :=
  fun k x hx => (h k x hx).kept hg (hne k x hx)
theorem val_some {x : Rw} {g : Nat} (h : x.1 = some ⟨g, 0, none⟩) : x.val.ownBlock = some g := by unfold Rw.val; rw [h]; rfl
/-- a mark is laid -/
theorem OwnAll.store {B : Nat} {w : World} {L : List Rw} {C : Nat → List Value} {Q : Nat} (hP : Parts L Q) (h : OwnAll B w L C) {i : Nat} {x : Rw} (hx : L[i]? = some x) {g : Nat} (hg : x.1 = some ⟨g, 0, none⟩) (j : Nat) (u : Value) :
    OwnAll B (w.setCell ⟨g, j, none⟩ u) L (fun k => if k = i then (C i).set j u else C k) ∧ w.grownBy (w.setCell ⟨g, j, none⟩ u) (some g) := by
  have ho := h i x hx
  unfold Rw.val at ho
  rw [hg] at ho
  obtain ⟨s1, s2⟩ := ho.stored j u
  refine ⟨fun k y hy => ?_, s2⟩
  by_cases hk : k = i
  · subst hk
    rw [hx] at hy
    obtain rfl := Option.some.inj hy
    simp only [if_true]
    unfold Rw.val
    rw [hg]
    exact s1
  · simp only [if_neg hk]
    refine (h k y hy).kept s2 ?_
    have := hP.two k i y x hy hx hk
    rwa [val_some hg] at this

theorem other_rows {B : Nat} {w : World} {L : List Rw} {C : Nat → List Value} (h : OwnAll B w L C) {b : Nat} {e : TypeId} {v : Value} {n : Nat} {xs : List Value} (hv : w.ownsRow b e 1 v n xs) (hne : E ≠ e) : ∀ (k : Nat) (x : Rw), L[k]? = some x → x.val.ownBlock = none ∨ x.val.ownBlock ≠ v.ownBlock :=
  fun k x hx => other_type (h k x hx) hv hne

/-- Nothing has changed but what is new, and the lists' own blocks. -/
structure Fr (L : List Rw) (w w' : World) : Prop where
  os : w'.os = w.os
  tape : w'.tape = w.tape
  output : w'.output = w.output
  size : w.heap.size ≤ w'.heap.size
  block : ∀ b, b < w.heap.size → (∀ (k : Nat) (x : Rw), L[k]? = some x → x.val.ownBlock ≠ some b) → w'.heap[b]? = w.heap[b]?
theorem Fr.refl (L : List Rw) (w : World) : Fr L w w := ⟨rfl, rfl, rfl, Nat.le_refl _, fun _ _ _ => rfl⟩
theorem Fr.step {L : List Rw} {w a b : World} (h : Fr L w a) {row : Option Nat} (hg : a.grownBy b row) (hr : ∀ k, row = some k → (∃ (i : Nat) (x : Rw), L[i]? = some x ∧ x.val.ownBlock = some k) ∨ w.heap.size ≤ k) : Fr L w b :=
  ⟨hg.os.trans h.os, hg.tape.trans h.tape, hg.output.trans h.output, Nat.le_trans h.size hg.size, fun k hk hno => (hg.block k (Nat.lt_of_lt_of_le hk h.size) (fun e => by
    rcases hr k e.symm with ⟨i, x, hx, hb⟩ | h1
    · exact hno i x hx hb
    · omega)).trans (h.block k hk hno)⟩
theorem Fr.below {L : List Rw} {w w' : World} (h : Fr L w w') {B : Nat} (hB : B ≤ w.heap.size) (hL : ∀ (k : Nat) (x : Rw), L[k]? = some x → x.val.ownBlock = none ∨ ∃ b, x.val.ownBlock = some b ∧ B ≤ b) : Below B w w' :=
  ⟨h.os, h.tape, h.output, h.size, fun k hk => h.block k (by omega) (fun i x hx e => by
    rcases hL i x hx with h1 | ⟨b, h1, h2⟩
    · rw [h1] at e; cases e
    · rw [h1] at e
      have := Option.some.inj e
      omega)⟩

def Rel1 (B : Nat) (w : World) (L : List Rw) (Q qo : Nat) (v3 : Value) (wr : World) : Prop :=
  ∃ (i : Nat) (C : Nat → List Value), i ≤ L.length ∧ v3 = .int .i64 (i : Int) ∧ OwnAll B wr L C ∧ (∀ (k : Nat) (x : Rw), k < i → L[k]? = some x → C k = List.replicate x.2.2 (m1 k)) ∧ Sit wr Q qo L ∧ Fr L w wr
def Rel2 (B : Nat) (w : World) (L : List Rw) (Q qo i n : Nat) (v4 : Value) (wr : World) : Prop :=
  ∃ (j : Nat) (C : Nat → List Value), j ≤ n ∧ v4 = .int .i64 (j : Int) ∧ OwnAll B wr L C ∧ (∀ (k : Nat) (x : Rw), k < i → L[k]? = some x → C k = List.replicate x.2.2 (m1 k)) ∧ (C i).take j = List.replicate j (m1 i) ∧ Sit wr Q qo L ∧ Fr L w wr
/-- The lists, marked. -/
def Marked (B : Nat) (w : World) (L : List Rw) : Prop := ∀ (k : Nat) (x : Rw), L[k]? = some x → w.ownsRow B E 1 x.val x.2.2 (List.replicate x.2.2 (m1 k))
/-- A list grown by forty. -/
def Full (B : Nat) (w : World) (L : List Rw) (k : Nat) (x : Rw) (v : Value) : Prop :=
  ∃ y c, v = .slice y (x.2.2 + 40) c ∧ w.ownsRow B E 1 (.slice y (x.2.2 + 40) c) (x.2.2 + 40) (List.replicate x.2.2 (m1 k) ++ List.replicate 40 (m2 k)) ∧
    ∀ (k' : Nat) (x' : Rw), k' ≠ k → L[k']? = some x' → (Value.slice y (x.2.2 + 40) c).ownBlock = none ∨ (Value.slice y (x.2.2 + 40) c).ownBlock ≠ x'.val.ownBlock
structure Got (B : Nat) (w wr : World) (L : List Rw) (Q qo G i : Nat) (gv : List Value) : Prop where
  marked : Marked B wr L
  row : wr.ownsRow B 24 1 (.slice (some ⟨G, 0, none⟩) L.length L.length) L.length gv
  full : ∀ (k : Nat) (x : Rw), k < i → L[k]? = some x → ∃ v, gv[k]? = some v ∧ Full B wr L k x v
  sit : Sit wr Q qo L
  below : Fr L w wr
def Rel3 (B : Nat) (w : World) (L : List Rw) (Q qo G : Nat) (v6 : Value) (wr : World) : Prop :=
  ∃ (i : Nat) (gv : List Value), i ≤ L.length ∧ v6 = .int .i64 (i : Int) ∧ Got B w wr L Q qo G i gv
/-- The list that is being grown: in its own old block, or in one made since H. -/
def Rel4 (B : Nat) (w : World) (L : List Rw) (Q qo G i H : Nat) (x : Rw) (gv : List Value) (v7 v8 : Value) (wr : World) : Prop :=
  ∃ (j : Nat) (y : Option Addr) (c : Nat), j ≤ 40 ∧ v8 = .int .i64 (j : Int) ∧ v7 = .slice y (x.2.2 + j) c ∧ wr.ownsRow B E 1 (.slice y (x.2.2 + j) c) (x.2.2 + j) (List.replicate x.2.2 (m1 i) ++ List.replicate j (m2 i)) ∧
    ((Value.slice y (x.2.2 + j) c).ownBlock = x.val.ownBlock ∨ ∃ b, (Value.slice y (x.2.2 + j) c).ownBlock = some b ∧ H ≤ b) ∧ H ≤ wr.heap.size ∧ Got B w wr L Q qo G i gv

/-- What was there before H, and is of no list i, stays. -/
structure Old (L : List Rw) (Q G i H : Nat) (x : Rw) (gv : List Value) : Prop where
  lists : ∀ (k : Nat) (z : Rw), L[k]? = some z → z.val.ownBlock = none ∨ ∃ b, z.val.ownBlock = some b ∧ b < H
  apart : ∀ (k : Nat) (z : Rw), k ≠ i → L[k]? = some z → z.val.ownBlock = none ∨ z.val.ownBlock ≠ x.val.ownBlock
  grown : ∀ (k : Nat) (v : Value), k < i → gv[k]? = some v → (v.ownBlock = none ∨ ∃ b, v.ownBlock = some b ∧ b < H) ∧ (v.ownBlock = none ∨ v.ownBlock ≠ x.val.ownBlock)
  g : G < H
  q : Q < H
  xq : x.val.ownBlock ≠ some Q
  xg : x.val.ownBlock ≠ some G
theorem Full.kept {B : Nat} {w w' : World} {L : List Rw} {k : Nat} {x : Rw} {v : Value} (h : Full B w L k x v) {row : Option Nat} (hg : w.grownBy w' row) (hne : v.ownBlock = none ∨ v.ownBlock ≠ row) : Full B w' L k x v := by
  obtain ⟨y, c, rfl, ho, ha⟩ := h
  exact ⟨y, c, rfl, ho.kept hg hne, ha⟩
/-- an alien block is written, or none -/
theorem Got.kept {B : Nat} {w wr w' : World} {L : List Rw} {Q qo G i : Nat} {gv : List Value} (h : Got B w wr L Q qo G i gv) {row : Option Nat} (hg : wr.grownBy w' row)
    (h1 : ∀ (k : Nat) (z : Rw), L[k]? = some z → z.val.ownBlock = none ∨ z.val.ownBlock ≠ row) (h2 : ∀ (k : Nat) (v : Value), k < i → gv[k]? = some v → v.ownBlock = none ∨ v.ownBlock ≠ row) (h3 : row ≠ some G) (h4 : row ≠ some Q) (h5 : ∀ k, row = some k → (∃ (i : Nat) (x : Rw), L[i]? = some x ∧ x.val.ownBlock = some k) ∨ w.heap.size ≤ k) : Got B w w' L Q qo G i gv :=
  ⟨fun k z hz => (h.marked k z hz).kept hg (h1 k z hz), h.row.kept hg (Or.inr (by simpa [Value.ownBlock] using fun e => h3 e.symm)), fun k z hk hz => by
    obtain ⟨v, hv, hf⟩ := h.full k z hk hz
    exact ⟨v, hv, hf.kept hg (h2 k v hk hv)⟩, h.sit.kept hg h4, h.below.step hg h5⟩
/-- nothing old is written -/
theorem Got.fresh {B : Nat} {w wr w' : World} {L : List Rw} {Q qo G i : Nat} {gv : List Value} (h : Got B w wr L Q qo G i gv) (hg : wr.grownBy w' none) : Got B w w' L Q qo G i gv :=
  h.kept hg (fun k z hz => by
    rcases below_lt (h.marked k z hz) with h1 | ⟨b, h1, _⟩
    · exact Or.inl h1
    · exact Or.inr (by rw [h1]; simp)) (fun k v hk hv => by
    cases hb : v.ownBlock with
    | none => exact Or.inl rfl
    | some b => exact Or.inr (by simp)) (by simp) (by simp) (fun k hk => by cases hk)
/-- the list that grows is written within its room -/
theorem Got.room {B : Nat} {w wr w' : World} {L : List Rw} {Q qo G i H : Nat} {x : Rw} {gv : List Value} (hO : Old L Q G i H x gv) (hx : L[i]? = some x) (h : Got B w wr L Q qo G i gv) (hH : w.heap.size ≤ H) {y n c : Nat} (hcase : some y = x.val.ownBlock ∨ H ≤ y)
    (hg : wr.grownBy w' (some y)) {ys : List Value} (hn : x.2.2 ≤ n) (hold : wr.ownsRow B E 1 (.slice (some ⟨y, 0, none⟩) n c) n ys) {ys' : List Value} (hnew : w'.ownsRow B E 1 (.slice (some ⟨y, 0, none⟩) (n + 1) c) (n + 1) (List.replicate x.2.2 (m1 i) ++ ys')) : Got B w w' L Q qo G i gv := by
  have hL : ∀ (k : Nat) (z : Rw), k ≠ i → L[k]? = some z → z.val.ownBlock = none ∨ z.val.ownBlock ≠ some y := fun k z hk hz => by
    rcases hcase with e | e
    · rw [e]; exact hO.apart k z hk hz
    · rcases hO.lists k z hz with h1 | ⟨b, h1, h2⟩
      · exact Or.inl h1
      · exact Or.inr (by rw [h1]; simp; omega)
  have hm : Marked B w' L := fun k z hz => by
    by_cases hk : k = i
    · subst hk
      rw [hx] at hz
      obtain rfl := Option.some.inj hz
      by_cases he : x.val.ownBlock = some y
      · have hmi := h.marked k x hx
        unfold Rw.val at hmi he ⊢
        rcases shape hmi with ⟨h1, _⟩ | ⟨g, h1, _⟩
        · rw [h1] at he; simp [Value.ownBlock] at he
        · rw [h1] at he hmi ⊢
          obtain rfl : g = y := by simpa [Value.ownBlock] using he
          obtain rfl := same_cap hmi hold
          have hp := prefix_own hnew (k := x.2.2) (by omega)
          rwa [List.take_left' (by simp)] at hp
      · exact (h.marked k x hx).kept hg (Or.inr he)
    · exact (h.marked k z hz).kept hg (hL k z hk hz)
  refine ⟨hm, h.row.kept hg (Or.inr ?_), fun k z hk hz => ?_, h.sit.kept hg ?_, h.below.step hg (fun k hk => by
    obtain rfl : y = k := Option.some.inj hk
    rcases hcase with e | e
    · exact Or.inl ⟨i, x, hx, e.symm⟩
    · exact Or.inr (Nat.le_trans hH e))⟩
  · have : (Value.slice (some ⟨G, 0, none⟩) L.length L.length).ownBlock = some G := rfl
    rw [this]
    rcases hcase with e | e
    · rw [e]; exact fun h => hO.xg h.symm
    · have := hO.g; simp; omega
  · obtain ⟨v, hv, hf⟩ := h.full k z hk hz
    obtain ⟨h1, h2⟩ := hO.grown k v hk hv
    refine ⟨v, hv, hf.kept hg ?_⟩
    rcases hcase with e | e
    · rw [e]; exact h2
    · rcases h1 with h1 | ⟨b, h1, h3⟩
      · exact Or.inl h1
      · exact Or.inr (by rw [h1]; simp; omega)
  · rcases hcase with e | e
    · rw [e]; exact hO.xq
    · have := hO.q; simp; omega
theorem cell_new (w : World) (v : Value) (t : TypeId) : ∀ j u, [v][j]? = some u → (w.alloc (.cells #[v] t)).cell? ((⟨w.heap.size, 0, none⟩ : Addr).add j) = some u := by
  intro j u hj
  match j, hj with
  | 0, hj => simp at hj; subst hj; simp [Addr.add]
theorem make_rows (n : Nat) (hn : n ≤ 1000000) (w : World) :
    (Instr.makeSlice 161 (.int .i64 (n : Int)) (.int .i64 (n : Int))).run Tryz.prog w = .ok (.slice (some ⟨w.heap.size, 0, none⟩) n n) (w.alloc (.cells (madeCells #[.slice none 0 0] n) 24)) := by
  obtain ⟨i0, hi, hz0, hz1, hz2⟩ := info_parts infoS
  have h := run_make (P := Tryz.prog) w 161 24 i0 (.slice none 0 0) Tryz.underlying161 hi hz0 .i64 .i64 n n (by omega) (by omega) (by rw [hz2]; omega) (by omega)
  rw [hz1] at h
  simpa [Value.cells] using h
theorem rows_made (B : Nat) (w : World) (n : Nat) (hB : B ≤ w.heap.size) (hn : n ≤ 1000000) : (w.alloc (.cells (madeCells #[.slice none 0 0] n) 24)).ownsRow B 24 1 (.slice (some ⟨w.heap.size, 0, none⟩) n n) n (List.replicate n (.slice none 0 0)) := by
  refine ⟨by simp, Or.inr ⟨w.heap.size, n, madeCells #[.slice none 0 0] n, rfl, hB, ?_, Nat.le_refl _, by unfold maxLen; omega, by rw [size_madeCells, Nat.mul_one], ?_⟩⟩
  · show (w.heap.push _)[w.heap.size]? = _
    simp
  · rw [Nat.mul_one, toList_madeCells_one, List.take_of_length_le (by simp)]

def TruePost (L : List Rw) (w : World) (e : Ending) (w' : World) : Prop := e = .returned (.bool true) ∧ Fr L w w'
end Go.Proofs.YtfgoflaeclfggaaGreatDoor.apartI
end
section
namespace Go.Proofs.YtfgoflaeclfggaaGreatDoor.apartI
open Go.RowKit

end Go.Proofs.YtfgoflaeclfggaaGreatDoor.apartI
end
section
namespace Go.Proofs.YtfgoflaeclfggaaGreatDoor
open Go.RowKit

/-- A list that was made: between two sizes of the heap lies its block. -/
abbrev MkI := Sl × Nat × Nat
/-- What a law knows on its way: the lent lists (below B), and the lists that were made (from B on), the newest first. -/
structure Kq (w wx : World) (B : Nat) (Ls : List (Nat × List Int)) (Lo : List MkI) : Prop where
  below : Below w.heap.size w wx
  lent : ∀ (i : Nat) (x : Nat × List Int), Ls[i]? = some x → LentI wx x.1 x.2 ∧ w.heap.size ≤ x.1 ∧ x.1 < B
  nd : ∀ (i j : Nat) (x y : Nat × List Int), Ls[i]? = some x → Ls[j]? = some y → i ≠ j → x.1 ≠ y.1
  base : B ≤ wx.heap.size
  low : w.heap.size ≤ B
  own : ∀ (i : Nat) (e : MkI), Lo[i]? = some e → IntO e.2.1 wx e.1.1 e.1.2.1 e.1.2.2 ∧ B ≤ e.2.1 ∧ (∀ k, (Sl.val e.1).ownBlock = some k → k < e.2.2) ∧ e.2.2 ≤ wx.heap.size
  apart : ∀ (i j : Nat) (e f : MkI), i < j → Lo[i]? = some e → Lo[j]? = some f → f.2.2 ≤ e.2.1
theorem Kq.next {w wx w' : World} {B : Nat} {Ls : List (Nat × List Int)} {Lo : List MkI} (K : Kq w wx B Ls Lo) (hb : Below wx.heap.size wx w') : Kq w w' B Ls Lo :=
  ⟨K.below.trans (hb.mono K.below.size), fun i x hx => ⟨(K.lent i x hx).1.below hb, (K.lent i x hx).2⟩, K.nd, Nat.le_trans K.base hb.size, K.low, fun i e he => by
    obtain ⟨h1, h2, h3, h4⟩ := K.own i e he
    exact ⟨h1.next hb, h2, h3, Nat.le_trans h4 hb.size⟩, K.apart⟩
theorem Kq.alloc {w wx : World} {B : Nat} {Ls : List (Nat × List Int)} {Lo : List MkI} (K : Kq w wx B Ls Lo) (o : Obj) : Kq w (wx.alloc o) B Ls Lo := K.next ((Below.refl _ _).alloc (Nat.le_refl _) _)
theorem IntO.lt {base : Nat} {w : World} {p : Option Addr} {c : Nat} {l : List Int} (h : IntO base w p c l) : ∀ k, (Sl.val (p, c, l)).ownBlock = some k → base ≤ k ∧ k < w.heap.size := fun k hk => World.ownsRow.lt h k hk
theorem Kq.push {w wx w' : World} {B : Nat} {Ls : List (Nat × List Int)} {Lo : List MkI} (K : Kq w wx B Ls Lo) (hb : Below wx.heap.size wx w') {p : Option Addr} {c : Nat} {l : List Int} (ho : IntO wx.heap.size w' p c l) : Kq w w' B Ls (((p, c, l), wx.heap.size, w'.heap.size) :: Lo) := by
  have K' := K.next hb
  refine ⟨K'.below, K'.lent, K'.nd, K'.base, K'.low, fun i e he => ?_, fun i j e f hij he hf => ?_⟩
  · cases i with
    | zero =>
      obtain rfl := Option.some.inj he
      exact ⟨ho, K.base, fun k hk => (ho.lt k hk).2, Nat.le_refl _⟩
    | succ i => exact K'.own i e he
  · cases j with
    | zero => omega
    | succ j =>
      cases i with
      | zero =>
        obtain rfl := Option.some.inj he
        exact (K.own j f hf).2.2.2
      | succ i => exact K'.apart i j e f (by omega) he hf
theorem Kq.get {w wx : World} {B : Nat} {Ls : List (Nat × List Int)} {Lo : List MkI} (K : Kq w wx B Ls Lo) (i : Nat) {p : Option Addr} {c lo hi : Nat} {l : List Int} (h : Lo[i]? = some ((p, c, l), lo, hi)) : IntV wx.heap.size wx p c l := (K.own i _ h).1.toV
theorem LentI.vn {w : World} {g m : Nat} {l : List Int} (h : LentI w g l) (hn : m = l.length + 2) (hl : l.length ≤ 17592186043904) : IntV w.heap.size w (some ⟨g, 0, none⟩) m l := by
  subst hn
  exact (LentI.own (base := 0) (Nat.zero_le _) hl h).toV
theorem Kq.old {w wx : World} {B : Nat} {Ls : List (Nat × List Int)} {Lo : List MkI} (K : Kq w wx B Ls Lo) {p : Option Addr} {c : Nat} {l : List Int} (h : IntV w.heap.size w p c l) : IntV wx.heap.size wx p c l := h.next K.below
/-- a lent list is written -/
theorem Kq.setx {w wx : World} {B : Nat} {Ls : List (Nat × List Int)} {Lo : List MkI} (K : Kq w wx B Ls Lo) (k g : Nat) (l : List Int) (hk : Ls[k]? = some (g, l)) (i : Nat) (v : Int) (hi : i < l.length) : Kq w (wx.setCell ⟨g, i, none⟩ (.int .i64 v)) B (Ls.set k (g, l.set i v)) Lo := by
  have hs : (wx.setCell ⟨g, i, none⟩ (.int .i64 v)).heap.size = wx.heap.size := by simp [World.setCell]
  have hg : wx.grownBy (wx.setCell ⟨g, i, none⟩ (.int .i64 v)) (some g) := ⟨rfl, rfl, rfl, by rw [hs]; exact Nat.le_refl _, fun k _ hne => Below.heap_setCell wx ⟨g, i, none⟩ _ k (fun e => hne (by rw [e]))⟩
  obtain ⟨hx, hx1, hx2⟩ := K.lent k _ hk
  have hset : ∀ (j : Nat) (x : Nat × List Int), (Ls.set k (g, l.set i v))[j]? = some x → (j = k ∧ x = (g, l.set i v)) ∨ (j ≠ k ∧ Ls[j]? = some x) := fun j x hj => by
    by_cases e : j = k
    · subst e
      rw [List.getElem?_set_self (List.getElem?_eq_some_iff.1 hk).1] at hj
      exact Or.inl ⟨rfl, (Option.some.inj hj).symm⟩
    · rw [List.getElem?_set_ne (Ne.symm e)] at hj
      exact Or.inr ⟨e, hj⟩
  refine ⟨K.below.setCell (p := ⟨g, i, none⟩) hx1 _, fun j x hj => ?_, fun j j' x y hj hj' hne => ?_, by rw [hs]; exact K.base, K.low, fun j e he => ?_, K.apart⟩
  · rcases hset j x hj with ⟨_, rfl⟩ | ⟨hne, hj⟩
    · refine ⟨?_, hx1, hx2⟩
      unfold LentI
      rw [heap_setCell_same _ g i _ _ _ hx]
      congr 2
      rw [← Array.toList_inj]
      simp only [Array.toList_setIfInBounds]
      rw [← cI_set, List.set_append_left _ _ hi]
    · obtain ⟨h1, h2, h3⟩ := K.lent j x hj
      have hxg : x.1 ≠ g := K.nd j k x _ hj hk hne
      exact ⟨h1.block (hg.block x.1 h1.lt (by simpa using hxg)), h2, h3⟩
  · rcases hset j x hj with ⟨a1, a2⟩ | ⟨a1, a2⟩
    · rcases hset j' y hj' with ⟨b1, b2⟩ | ⟨b1, b2⟩
      · exact absurd (a1.trans b1.symm) hne
      · rw [a2]
        exact K.nd k j' (g, l) y hk b2 (Ne.symm b1)
    · rcases hset j' y hj' with ⟨b1, b2⟩ | ⟨b1, b2⟩
      · rw [b2]
        exact K.nd j k x (g, l) a2 hk a1
      · exact K.nd j j' x y a2 b2 hne
  · obtain ⟨h1, h2, h3, h4⟩ := K.own j e he
    refine ⟨World.ownsRow.kept h1 hg ?_, h2, h3, by rw [hs]; exact h4⟩
    cases hb : (Sl.val e.1).ownBlock with
    | none => exact Or.inl hb
    | some z =>
      right
      have h5 := (IntO.lt h1 z hb).1
      have h7 : (Value.slice e.1.1 e.1.2.2.length e.1.2.1).ownBlock = some z := hb
      rw [h7]
      simp
      omega
def rwOf (Lo : List MkI) (i : Nat) : apartI.Rw := match Lo[i]? with
  | some e => (e.1.1, e.1.2.1, e.1.2.2.length)
  | none => (none, 0, 0)
theorem rwOf_some {Lo : List MkI} {i : Nat} {e : MkI} (h : Lo[i]? = some e) : rwOf Lo i = (e.1.1, e.1.2.1, e.1.2.2.length) := by unfold rwOf; rw [h]
theorem own_chooseI {B : Nat} {w : World} {L : List apartI.Rw} (h : ∀ (k : Nat) (x : apartI.Rw), L[k]? = some x → ∃ xs, w.ownsRow B apartI.E 1 x.val x.2.2 xs) : ∃ C, apartI.OwnAll B w L C := by
  have key : ∀ k : Nat, ∃ xs : List Value, ∀ x : apartI.Rw, L[k]? = some x → w.ownsRow B apartI.E 1 x.val x.2.2 xs := fun k => by
    cases hk : L[k]? with
    | none => exact ⟨[], fun x hx => by cases hx⟩
    | some y =>
      obtain ⟨xs, hxs⟩ := h k y hk
      exact ⟨xs, fun x hx => by obtain rfl := Option.some.inj hx; exact hxs⟩
  exact ⟨fun k => Classical.choose (key k), fun k x hx => Classical.choose_spec (key k) x hx⟩
theorem IntO.toV_of {base : Nat} {w w' : World} {p : Option Addr} {c : Nat} {l : List Int} (h : IntO base w p c l) (hs : w.heap.size ≤ w'.heap.size) (hb : ∀ z, base ≤ z → z < w.heap.size → (Sl.val (p, c, l)).ownBlock = some z → w'.heap[z]? = w.heap[z]?) : IntV w'.heap.size w' p c l := by
  have hv := h.toV
  refine ⟨hv.le, hv.cap, hv.nil, fun hn => ?_⟩
  rcases own_shape h with ⟨hv', h0, _⟩ | ⟨g, cap, hv', hg, hgl, hc, hm, hcl, _⟩
  · exact absurd (List.eq_nil_of_length_eq_zero h0) hn
  · obtain ⟨rfl, rfl⟩ : p = some ⟨g, 0, none⟩ ∧ c = cap := by simpa using hv'
    exact ⟨g, 0, rfl, by omega, fun j x hx => by rw [Nat.zero_add]; exact (World.cell?_of_block (hb g hg hgl rfl)).trans ((hcl j (ltI hx)).trans (cI_get hx))⟩
/-- what is left when lists were found apart: the lent ones, and the made ones that were not asked -/
def ApartPost (w : World) (Ls : List (Nat × List Int)) (Lo : List MkI) (Ks : List Nat) (e : Ending) (w' : World) : Prop :=
  e = .returned (.bool true) ∧ Below w.heap.size w w' ∧ (∀ (i : Nat) (x : Nat × List Int), Ls[i]? = some x → LentI w' x.1 x.2) ∧ ∀ (i : Nat) (f : MkI), Lo[i]? = some f → i ∉ Ks → IntV w'.heap.size w' f.1.1 f.1.2.1 f.1.2.2
end Go.Proofs.YtfgoflaeclfggaaGreatDoor
end
