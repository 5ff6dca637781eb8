/- What the statements on new memory share: lists that were lent, lists that were made, one behind the other; edenraw.Apart over them.
The calls of package nat over a list of numbers that are known: what each call adds to the list.
edenraw.LentNat, KeptNat and CopyNat, by contracts. -/
import Derived.Test.YthafjbegkifekaaDoorB4
import Derived.Test.YthafjbegkifekaaDoorB3
import Derived.Test.YthafjbegkifekaaDoorB2
import Derived.Laws.CopyOwn
import Derived.Laws.AppendOwnNone
section
namespace Go.Proofs.YthafjbegkifekaaDoor
open Go.RowKit

/-- A list that was made: between two sizes of the heap lies its block. -/
abbrev MkI := Sl × Nat × Nat
/-- What a law knows on its way: the lent lists (below B), and the lists that were made (from B on), the newest first. -/
structure Kq (w wx : World) (B : Nat) (Ls : List (Nat × List Int)) (Lo : List MkI) : Prop where
  below : Below w.heap.size w wx
  lent : ∀ (i : Nat) (x : Nat × List Int), Ls[i]? = some x → LentI wx x.1 x.2 ∧ w.heap.size ≤ x.1 ∧ x.1 < B
  nd : ∀ (i j : Nat) (x y : Nat × List Int), Ls[i]? = some x → Ls[j]? = some y → i ≠ j → x.1 ≠ y.1
  base : B ≤ wx.heap.size
  low : w.heap.size ≤ B
  own : ∀ (i : Nat) (e : MkI), Lo[i]? = some e → IntO e.2.1 wx e.1.1 e.1.2.1 e.1.2.2 ∧ B ≤ e.2.1 ∧ (∀ k, (Sl.val e.1).ownBlock = some k → k < e.2.2) ∧ e.2.2 ≤ wx.heap.size
  apart : ∀ (i j : Nat) (e f : MkI), i < j → Lo[i]? = some e → Lo[j]? = some f → f.2.2 ≤ e.2.1
theorem Kq.next {w wx w' : World} {B : Nat} {Ls : List (Nat × List Int)} {Lo : List MkI} (K : Kq w wx B Ls Lo) (hb : Below wx.heap.size wx w') : Kq w w' B Ls Lo :=
  ⟨K.below.trans (hb.mono K.below.size), fun i x hx => ⟨(K.lent i x hx).1.below hb, (K.lent i x hx).2⟩, K.nd, Nat.le_trans K.base hb.size, K.low, fun i e he => by
    obtain ⟨h1, h2, h3, h4⟩ := K.own i e he
    exact ⟨h1.next hb, h2, h3, Nat.le_trans h4 hb.size⟩, K.apart⟩
theorem Kq.alloc {w wx : World} {B : Nat} {Ls : List (Nat × List Int)} {Lo : List MkI} (K : Kq w wx B Ls Lo) (o : Obj) : Kq w (wx.alloc o) B Ls Lo := K.next ((Below.refl _ _).alloc (Nat.le_refl _) _)
theorem IntO.lt {base : Nat} {w : World} {p : Option Addr} {c : Nat} {l : List Int} (h : IntO base w p c l) : ∀ k, (Sl.val (p, c, l)).ownBlock = some k → base ≤ k ∧ k < w.heap.size := fun k hk => World.ownsRow.lt h k hk
theorem Kq.push {w wx w' : World} {B : Nat} {Ls : List (Nat × List Int)} {Lo : List MkI} (K : Kq w wx B Ls Lo) (hb : Below wx.heap.size wx w') {p : Option Addr} {c : Nat} {l : List Int} (ho : IntO wx.heap.size w' p c l) : Kq w w' B Ls (((p, c, l), wx.heap.size, w'.heap.size) :: Lo) := by
  have K' := K.next hb
  refine ⟨K'.below, K'.lent, K'.nd, K'.base, K'.low, fun i e he => ?_, fun i j e f hij he hf => ?_⟩
  · cases i with
    | zero =>
      obtain rfl := Option.some.inj he
      exact ⟨ho, K.base, fun k hk => (ho.lt k hk).2, Nat.le_refl _⟩
    | succ i => exact K'.own i e he
  · cases j with
    | zero => omega
    | succ j =>
      cases i with
      | zero =>
        obtain rfl := Option.some.inj he
        exact (K.own j f hf).2.2.2
      | succ i => exact K'.apart i j e f (by omega) he hf
theorem Kq.get {w wx : World} {B : Nat} {Ls : List (Nat × List Int)} {Lo : List MkI} (K : Kq w wx B Ls Lo) (i : Nat) {p : Option Addr} {c lo hi : Nat} {l : List Int} (h : Lo[i]? = some ((p, c, l), lo, hi)) : IntV wx.heap.size wx p c l := (K.own i _ h).1.toV
theorem LentI.vn {w : World} {g m : Nat} {l : List Int} (h : LentI w g l) (hn : m = l.length + 2) (hl : l.length ≤ 17592186043904) : IntV w.heap.size w (some ⟨g, 0, none⟩) m l := by
  subst hn
  exact (LentI.own (base := 0) (Nat.zero_le _) hl h).toV
theorem Kq.old {w wx : World} {B : Nat} {Ls : List (Nat × List Int)} {Lo : List MkI} (K : Kq w wx B Ls Lo) {p : Option Addr} {c : Nat} {l : List Int} (h : IntV w.heap.size w p c l) : IntV wx.heap.size wx p c l := h.next K.below
/-- a lent list is written -/
theorem Kq.setx {w wx : World} {B : Nat} {Ls : List (Nat × List Int)} {Lo : List MkI} (K : Kq w wx B Ls Lo) (k g : Nat) (l : List Int) (hk : Ls[k]? = some (g, l)) (i : Nat) (v : Int) (hi : i < l.length) : Kq w (wx.setCell ⟨g, i, none⟩ (.int .i64 v)) B (Ls.set k (g, l.set i v)) Lo := by
  have hs : (wx.setCell ⟨g, i, none⟩ (.int .i64 v)).heap.size = wx.heap.size := by simp [World.setCell]
  have hg : wx.grownBy (wx.setCell ⟨g, i, none⟩ (.int .i64 v)) (some g) := ⟨rfl, rfl, rfl, by rw [hs]; exact Nat.le_refl _, fun k _ hne => Below.heap_setCell wx ⟨g, i, none⟩ _ k (fun e => hne (by rw [e]))⟩
  obtain ⟨hx, hx1, hx2⟩ := K.lent k _ hk
  have hset : ∀ (j : Nat) (x : Nat × List Int), (Ls.set k (g, l.set i v))[j]? = some x → (j = k ∧ x = (g, l.set i v)) ∨ (j ≠ k ∧ Ls[j]? = some x) := fun j x hj => by
    by_cases e : j = k
    · subst e
      rw [List.getElem?_set_self (List.getElem?_eq_some_iff.1 hk).1] at hj
      exact Or.inl ⟨rfl, (Option.some.inj hj).symm⟩
    · rw [List.getElem?_set_ne (Ne.symm e)] at hj
      exact Or.inr ⟨e, hj⟩
  refine ⟨K.below.setCell (p := ⟨g, i, none⟩) hx1 _, fun j x hj => ?_, fun j j' x y hj hj' hne => ?_, by rw [hs]; exact K.base, K.low, fun j e he => ?_, K.apart⟩
  · rcases hset j x hj with ⟨_, rfl⟩ | ⟨hne, hj⟩
    · refine ⟨?_, hx1, hx2⟩
      unfold LentI
      rw [heap_setCell_same _ g i _ _ _ hx]
      congr 2
      rw [← Array.toList_inj]
      simp only [Array.toList_setIfInBounds]
      rw [← cI_set, List.set_append_left _ _ hi]
    · obtain ⟨h1, h2, h3⟩ := K.lent j x hj
      have hxg : x.1 ≠ g := K.nd j k x _ hj hk hne
      exact ⟨h1.block (hg.block x.1 h1.lt (by simpa using hxg)), h2, h3⟩
  · rcases hset j x hj with ⟨a1, a2⟩ | ⟨a1, a2⟩
    · rcases hset j' y hj' with ⟨b1, b2⟩ | ⟨b1, b2⟩
      · exact absurd (a1.trans b1.symm) hne
      · rw [a2]
        exact K.nd k j' (g, l) y hk b2 (Ne.symm b1)
    · rcases hset j' y hj' with ⟨b1, b2⟩ | ⟨b1, b2⟩
      · rw [b2]
        exact K.nd j k x (g, l) a2 hk a1
      · exact K.nd j j' x y a2 b2 hne
  · obtain ⟨h1, h2, h3, h4⟩ := K.own j e he
    refine ⟨World.ownsRow.kept h1 hg ?_, h2, h3, by rw [hs]; exact h4⟩
    cases hb : (Sl.val e.1).ownBlock with
    | none => exact Or.inl hb
    | some z =>
      right
      have h5 := (IntO.lt h1 z hb).1
      have h7 : (Value.slice e.1.1 e.1.2.2.length e.1.2.1).ownBlock = some z := hb
      rw [h7]
      simp
      omega
def rwOf (Lo : List MkI) (i : Nat) : apartI.Rw := match Lo[i]? with
  | some e => (e.1.1, e.1.2.1, e.1.2.2.length)
  | none => (none, 0, 0)
theorem rwOf_some {Lo : List MkI} {i : Nat} {e : MkI} (h : Lo[i]? = some e) : rwOf Lo i = (e.1.1, e.1.2.1, e.1.2.2.length) := by unfold rwOf; rw [h]
theorem own_chooseI {B : Nat} {w : World} {L : List apartI.Rw} (h : ∀ (k : Nat) (x : apartI.Rw), L[k]? = some x → ∃ xs, w.ownsRow B apartI.E 1 x.val x.2.2 xs) : ∃ C, apartI.OwnAll B w L C := by
  have key : ∀ k : Nat, ∃ xs : List Value, ∀ x : apartI.Rw, L[k]? = some x → w.ownsRow B apartI.E 1 x.val x.2.2 xs := fun k => by
    cases hk : L[k]? with
    | none => exact ⟨[], fun x hx => by cases hx⟩
    | some y =>
      obtain ⟨xs, hxs⟩ := h k y hk
      exact ⟨xs, fun x hx => by obtain rfl := Option.some.inj hx; exact hxs⟩
  exact ⟨fun k => Classical.choose (key k), fun k x hx => Classical.choose_spec (key k) x hx⟩
theorem IntO.toV_of {base : Nat} {w w' : World} {p : Option Addr} {c : Nat} {l : List Int} (h : IntO base w p c l) (hs : w.heap.size ≤ w'.heap.size) (hb : ∀ z, base ≤ z → z < w.heap.size → (Sl.val (p, c, l)).ownBlock = some z → w'.heap[z]? = w.heap[z]?) : IntV w'.heap.size w' p c l := by
  have hv := h.toV
  refine ⟨hv.le, hv.cap, hv.nil, fun hn => ?_⟩
  rcases own_shape h with ⟨hv', h0, _⟩ | ⟨g, cap, hv', hg, hgl, hc, hm, hcl, _⟩
  · exact absurd (List.eq_nil_of_length_eq_zero h0) hn
  · obtain ⟨rfl, rfl⟩ : p = some ⟨g, 0, none⟩ ∧ c = cap := by simpa using hv'
    exact ⟨g, 0, rfl, by omega, fun j x hx => by rw [Nat.zero_add]; exact (World.cell?_of_block (hb g hg hgl rfl)).trans ((hcl j (ltI hx)).trans (cI_get hx))⟩
/-- what is left when lists were found apart: the lent ones, and the made ones that were not asked -/
def ApartPost (w : World) (Ls : List (Nat × List Int)) (Lo : List MkI) (Ks : List Nat) (e : Ending) (w' : World) : Prop :=
  e = .returned (.bool true) ∧ Below w.heap.size w w' ∧ (∀ (i : Nat) (x : Nat × List Int), Ls[i]? = some x → LentI w' x.1 x.2) ∧ ∀ (i : Nat) (f : MkI), Lo[i]? = some f → i ∉ Ks → IntV w'.heap.size w' f.1.1 f.1.2.1 f.1.2.2
theorem Kq.apart_call {w wx : World} {B : Nat} {Ls : List (Nat × List Int)} {Lo : List MkI} (K : Kq w wx B Ls Lo) (Ks : List Nat) (hK : Ks.Nodup) (cs : Array Value) (t : TypeId) (n : Nat) (hn : n = Ks.length) (hn2 : n ≤ 1000)
    (hall : ∀ (k i : Nat), Ks[k]? = some i → ∃ e : MkI, Lo[i]? = some e ∧ cs[k]? = some (Sl.val e.1) ∧ e.1.2.2.length ≤ 100000) :
    Calls Tryd.prog 37 #[.slice (some ⟨wx.heap.size, 0, none⟩) n n] (wx.alloc (.cells cs t)) (ApartPost w Ls Lo Ks) := by
  subst hn
  have hL : ∀ (k : Nat) (x : apartI.Rw), (Ks.map (rwOf Lo))[k]? = some x → ∃ (i : Nat) (e : MkI), Ks[k]? = some i ∧ Lo[i]? = some e ∧ x = (e.1.1, e.1.2.1, e.1.2.2.length) ∧ cs[k]? = some (Sl.val e.1) ∧ e.1.2.2.length ≤ 100000 := fun k x hx => by
    rw [List.getElem?_map] at hx
    obtain ⟨i, hi, rfl⟩ := Option.map_eq_some_iff.1 hx
    obtain ⟨e, he, hc, hl⟩ := hall k i hi
    exact ⟨i, e, hi, he, rwOf_some he, hc, hl⟩
  have hval : ∀ e : MkI, apartI.Rw.val (e.1.1, e.1.2.1, e.1.2.2.length) = Sl.val e.1 := fun e => rfl
  have key : ∀ (i : Nat) (e : MkI), Lo[i]? = some e → (Sl.val e.1).ownBlock = none ∨ ∃ z, (Sl.val e.1).ownBlock = some z ∧ e.2.1 ≤ z ∧ z < e.2.2 := fun i e he => by
    cases hb : (Sl.val e.1).ownBlock with
    | none => exact Or.inl rfl
    | some z => exact Or.inr ⟨z, rfl, (IntO.lt (K.own i e he).1 z hb).1, (K.own i e he).2.2.1 z hb⟩
  have hsz : wx.heap.size < (wx.alloc (.cells cs t)).heap.size := by simp
  have hP : apartI.Parts (Ks.map (rwOf Lo)) wx.heap.size := by
    refine ⟨fun k k' x x' hx hx' hne => ?_, fun k x hx => ?_⟩
    · obtain ⟨i, e, hi, he, rfl, _⟩ := hL k x hx
      obtain ⟨j, f, hj, hf, rfl, _⟩ := hL k' x' hx'
      have hij : i ≠ j := by
        rintro rfl
        obtain ⟨h1, h2⟩ := List.getElem?_eq_some_iff.1 hi
        obtain ⟨h3, h4⟩ := List.getElem?_eq_some_iff.1 hj
        have hp := List.pairwise_iff_getElem.1 hK
        rcases Nat.lt_or_gt_of_ne hne with h | h
        · exact hp k k' h1 h3 h (h2.trans h4.symm)
        · exact hp k' k h3 h1 h (h4.trans h2.symm)
      rw [hval, hval]
      rcases key i e he with h | ⟨z, h1, h2, h3⟩
      · exact Or.inl h
      · right
        rcases key j f hf with h | ⟨z', h4, h5, h6⟩
        · rw [h1, h]; intro e'; cases e'
        · intro e'
          rw [h1, h4] at e'
          have e3 := Option.some.inj e'
          rcases Nat.lt_or_gt_of_ne hij with h | h
          · have := K.apart i j e f h he hf; omega
          · have := K.apart j i f e h hf he; omega
    · obtain ⟨i, e, hi, he, rfl, _⟩ := hL k x hx
      rw [hval]
      intro e'
      have h1 := (K.own i e he).2.2.1 _ e'
      have h2 := (K.own i e he).2.2.2
      omega
  obtain ⟨C0, hC0⟩ := own_chooseI (B := B) (w := wx.alloc (.cells cs t)) (L := Ks.map (rwOf Lo)) (fun k x hx => by
    obtain ⟨i, e, _, he, rfl, _⟩ := hL k x hx
    obtain ⟨h1, h2, _, _⟩ := K.own i e he
    exact ⟨_, World.ownsRow.alloc (h1.base h2) _⟩)
  have hS : apartI.Sit (wx.alloc (.cells cs t)) wx.heap.size 0 (Ks.map (rwOf Lo)) := ⟨hsz, fun j x hx => by
    obtain ⟨i, e, _, he, rfl, hc, _⟩ := hL j x hx
    rw [Nat.zero_add, cell_alloc_row, hval, hc]⟩
  have hlen : ∀ x ∈ Ks.map (rwOf Lo), x.2.2 ≤ 100000 := fun x hx => by
    obtain ⟨k, hk⟩ := List.getElem?_of_mem hx
    obtain ⟨i, e, _, _, rfl, _, hl⟩ := hL k x hk
    exact hl
  have h := apartI.apart_any B (Ks.map (rwOf Lo)) wx.heap.size 0 Ks.length (wx.alloc (.cells cs t)) (Nat.le_trans K.base (Nat.le_of_lt hsz)) hP C0 hC0 hS (by rw [List.length_map]; exact hn2) hlen (by rw [List.length_map]; exact Nat.le_refl _) (by omega)
  rw [List.length_map] at h
  refine h.mono ?_
  rintro e w' ⟨rfl, hfr⟩
  have hblk : ∀ z, z < wx.heap.size → (∀ (k i : Nat) (e : MkI), Ks[k]? = some i → Lo[i]? = some e → (Sl.val e.1).ownBlock ≠ some z) → w'.heap[z]? = wx.heap[z]? := fun z hz hno => by
    rw [hfr.block z (Nat.lt_trans hz hsz) (fun k x hx => by
      obtain ⟨i, e, hi, he, rfl, _⟩ := hL k x hx
      rw [hval]
      exact hno k i e hi he)]
    exact Below.heap_alloc _ _ _ hz
  have hlow : ∀ z, z < B → w'.heap[z]? = wx.heap[z]? := fun z hz => hblk z (Nat.lt_of_lt_of_le hz K.base) (fun k i e _ he h => by
    have h1 := (IntO.lt (K.own i e he).1 z h).1
    have h2 := (K.own i e he).2.1
    omega)
  have hBl : ∀ z, z < w.heap.size → w'.heap[z]? = wx.heap[z]? := fun z hz => hlow z (Nat.lt_of_lt_of_le hz K.low)
  refine ⟨rfl, K.below.trans ⟨hfr.os, hfr.tape, hfr.output, by have := hfr.size; have := K.below.size; omega, fun k hk => hBl k hk⟩, fun i x hx => ?_, fun i f hf hni => ?_⟩
  · obtain ⟨h1, _, h3⟩ := K.lent i x hx
    exact h1.block (hlow x.1 h3)
  · obtain ⟨h1, h2, h3, h4⟩ := K.own i f hf
    refine IntO.toV_of h1 (by have := hfr.size; omega) (fun z hz1 hz2 hzo => hblk z hz2 (fun k j e hj he hze => ?_))
    have hij : i ≠ j := by rintro rfl; exact hni (List.mem_of_getElem? hj)
    have e1 := (IntO.lt (K.own j e he).1 z hze).1
    have e2 := (K.own j e he).2.2.1 z hze
    have e3 := h3 z hzo
    rcases Nat.lt_or_gt_of_ne hij with h | h
    · have := K.apart i j f e h hf he; omega
    · have := K.apart j i e f h he hf; omega
end Go.Proofs.YthafjbegkifekaaDoor
end
section
namespace Go.Proofs.YthafjbegkifekaaDoor
open Go.RowKit NatM

/-- Numbers that are known in the world wx, each with a bound of its length; below w nothing has changed. -/
structure St (w wx : World) (L : List (Nt × Nat)) : Prop where
  each : ∀ x : Nt × Nat, x ∈ L → NatV wx.heap.size wx x.1.1 x.1.2.1 x.1.2.2 ∧ x.1.2.2.length ≤ x.2
  below : Below w.heap.size w wx
theorem St.get {w wx : World} {L : List (Nt × Nat)} (S : St w wx L) {i : Nat} {p : Option Addr} {c : Nat} {l : List Nat} {k : Nat} (h : L[i]? = some ((p, c, l), k)) : NatV wx.heap.size wx p c l ∧ l.length ≤ k :=
  S.each _ (List.mem_of_getElem? h)
theorem St.next {w wx w' : World} {L : List (Nt × Nat)} (S : St w wx L) (hb : Below wx.heap.size wx w') : St w w' L :=
  ⟨fun x hx => ⟨(S.each x hx).1.next hb, (S.each x hx).2⟩, S.below.trans (hb.mono S.below.size)⟩
theorem St.push {w wx w' : World} {L : List (Nt × Nat)} (S : St w wx L) (hb : Below wx.heap.size wx w') {p : Option Addr} {c : Nat} {l : List Nat} {k : Nat} (h : NatV w'.heap.size w' p c l) (hl : l.length ≤ k) : St w w' (((p, c, l), k) :: L) :=
  ⟨fun x hx => by
    rcases List.mem_cons.1 hx with rfl | hx
    · exact ⟨h, hl⟩
    · exact (S.next hb).each x hx, (S.next hb).below⟩
theorem St.alloc {w wx : World} {L : List (Nt × Nat)} (S : St w wx L) (o : Obj) : St w (wx.alloc o) L := S.next ((Below.refl _ _).alloc (Nat.le_refl _) _)
/-- a literal of limbs, just laid -/
theorem St.lit {w wx : World} {L : List (Nt × Nat)} (S : St w wx L) (l : List Nat) (cs : Array Value) (t : TypeId) (hc : cs.toList = cells32 l) (hl : l.length ≤ 1000) (ok : ok32 l) :
    St w (wx.alloc (.cells cs t)) (((some ⟨wx.heap.size, 0, none⟩, l.length, l), l.length) :: L) :=
  S.push ((Below.refl _ _).alloc (Nat.le_refl _) _) (NatV.laid l cs t hc hl ok) (Nat.le_refl _)
theorem NatV.nothing (w : World) : NatV w.heap.size w none 0 [] := ⟨okB_nil _, Nat.le_refl _, Nat.zero_le _, fun _ => rfl, fun h => absurd rfl h⟩

theorem len_of {l : List Nat} (ho : ok32 l) {k : Nat} (hl : l.length ≤ k) : V32 l < 4294967296 ^ k := Nat.lt_of_lt_of_le (V32_lt ho) (Nat.pow_le_pow_right (by omega) hl)
theorem len_add {a b j k : Nat} (ha : a < 4294967296 ^ j) (hb : b < 4294967296 ^ k) : (D32 (a + b)).length ≤ max j k + 1 := by
  apply D32_len
  rw [Nat.pow_succ]
  have h1 : 4294967296 ^ j ≤ 4294967296 ^ max j k := Nat.pow_le_pow_right (by omega) (by omega)
  have h2 : 4294967296 ^ k ≤ 4294967296 ^ max j k := Nat.pow_le_pow_right (by omega) (by omega)
  omega
theorem len_mul {a b j k : Nat} (ha : a < 4294967296 ^ j) (hb : b < 4294967296 ^ k) : (D32 (a * b)).length ≤ j + k := by
  apply D32_len
  rw [Nat.pow_add]
  exact Nat.mul_lt_mul_of_lt_of_lt ha hb

def AddsPost (w : World) (L : List (Nt × Nat)) (N k : Nat) (e : Ending) (w' : World) : Prop :=
  ∃ p c, e = .returned (.slice p (D32 N).length c) ∧ St w w' (((p, c, D32 N), k) :: L)
def StPost (w : World) (L : List (Nt × Nat)) (v : Value) (e : Ending) (w' : World) : Prop := e = .returned v ∧ St w w' L

theorem St.tells {w wx : World} {L : List (Nt × Nat)} (S : St w wx L) {f : FuncId} {args : Array Value} {v : Value} (h : Calls Tryd.prog f args wx (Tells v wx)) : Calls Tryd.prog f args wx (StPost w L v) :=
  h.mono fun _ _ ⟨he, hb⟩ => ⟨he, S.next hb⟩
theorem St.makes {w wx : World} {L : List (Nt × Nat)} (S : St w wx L) {f : FuncId} {args : Array Value} {N k : Nat} (h : Calls Tryd.prog f args wx (NatPost wx N)) (hk : (D32 N).length ≤ k) : Calls Tryd.prog f args wx (AddsPost w L N k) :=
  h.mono fun _ _ ⟨p, c, he, ho, hb⟩ => ⟨p, c, he, S.push hb ho.toV hk⟩

theorem St.add {w wx : World} {L : List (Nt × Nat)} (S : St w wx L) (i i' N : Nat) {p q : Option Addr} {n n' c d : Nat} {l m : List Nat} {j k : Nat} (hi : L[i]? = some ((p, c, l), j)) (hi' : L[i']? = some ((q, d, m), k))
    (hj : j ≤ 100000) (hk : k ≤ 100000) (hN : V32 l + V32 m = N) (hn : n = l.length) (hn' : n' = m.length) : Calls Tryd.prog 75 #[.slice p n c, .slice q n' d] wx (AddsPost w L N (max j k + 1)) := by
  subst hN hn hn'
  exact S.makes (add_any p q c d l m wx (S.get hi).1 (S.get hi').1 (Nat.le_trans (S.get hi).2 hj) (Nat.le_trans (S.get hi').2 hk)) (len_add (len_of (S.get hi).1.ok (S.get hi).2) (len_of (S.get hi').1.ok (S.get hi').2))
theorem St.mul {w wx : World} {L : List (Nt × Nat)} (S : St w wx L) (i i' N : Nat) {p q : Option Addr} {n n' c d : Nat} {l m : List Nat} {j k : Nat} (hi : L[i]? = some ((p, c, l), j)) (hi' : L[i']? = some ((q, d, m), k))
    (hj : j ≤ 100000) (hk : k ≤ 100000) (hN : V32 l * V32 m = N) (hn : n = l.length) (hn' : n' = m.length) : Calls Tryd.prog 76 #[.slice p n c, .slice q n' d] wx (AddsPost w L N (j + k)) := by
  subst hN hn hn'
  exact S.makes (mul_any p q c d l m wx (S.get hi).1 (S.get hi').1 (Nat.le_trans (S.get hi).2 hj) (Nat.le_trans (S.get hi').2 hk)) (len_mul (len_of (S.get hi).1.ok (S.get hi).2) (len_of (S.get hi').1.ok (S.get hi').2))
theorem St.nats {w wx : World} {L : List (Nt × Nat)} (S : St w wx L) (i i' : Nat) {p q : Option Addr} {n n' c d : Nat} {l m : List Nat} {j k : Nat} (hi : L[i]? = some ((p, c, l), j)) (hi' : L[i']? = some ((q, d, m), k))
    (hlm : l = m) (hn : n = l.length) (hn' : n' = m.length) : Calls Tryd.prog 31 #[.slice p n c, .slice q n' d] wx (StPost w L (.bool true)) := by
  subst hlm
  exact S.tells (nats_eq p q n n' c d l wx hn hn' (S.get hi).1 (S.get hi').1)
theorem St.cmp {w wx : World} {L : List (Nt × Nat)} (S : St w wx L) (i i' : Nat) {p q : Option Addr} {n n' c d : Nat} {l m : List Nat} {j k : Nat} (hi : L[i]? = some ((p, c, l), j)) (hi' : L[i']? = some ((q, d, m), k))
    (hn : n = l.length) (hn' : n' = m.length) (r : Int) (hr : cmpN (V32 l) (V32 m) = r) : Calls Tryd.prog 34 #[.slice p n c, .slice q n' d] wx (StPost w L (.int .i64 r)) := by
  subst hn hn' hr
  exact S.tells (cmp_any p q c d l m wx (S.get hi).1 (S.get hi').1)
/-- the sum of numbers that stand in a literal, just laid -/
theorem St.sum {w wx : World} {L : List (Nt × Nat)} (S : St w wx L) (K : List Nt) (cs : Array Value) (t : TypeId) (hc : cs.toList = K.map Nt.val) (hl : K.length ≤ 1000) (M : Nat) (hM : M ≤ 100000) (h : ∀ x : Nt, x ∈ K → ∃ k, (x, k) ∈ L ∧ k ≤ M) (N : Nat) (hN : sumV K = N) {n c : Nat} (hn : n = K.length) (hcap : c = K.length) :
    Calls Tryd.prog 87 #[.slice (some ⟨wx.heap.size, 0, none⟩) n c] (wx.alloc (.cells cs t)) (AddsPost w L N (M + 1)) := by
  subst hN hcap
  have hx : ∀ x : Nt, x ∈ K → NatV wx.heap.size wx x.1 x.2.1 x.2.2 ∧ x.2.2.length ≤ M := fun x hx => by
    obtain ⟨k, hk, hkM⟩ := h x hx
    exact ⟨(S.each _ hk).1, Nat.le_trans (S.each _ hk).2 hkM⟩
  exact (S.alloc _).makes (sum_any _ n _ K _ hn (NatsV.laid K cs t hc hl fun x h => (hx x h).1) hl fun x h => Nat.le_trans (hx x h).2 hM)
    (sumV_len (fun x h => ⟨(hx x h).1.ok, (hx x h).2⟩) hl)
/-- a list with better bounds -/
theorem St.bound {w wx : World} {L L' : List (Nt × Nat)} (S : St w wx L) (h : ∀ x : Nt × Nat, x ∈ L' → (∃ k, (x.1, k) ∈ L) ∧ x.1.2.2.length ≤ x.2) : St w wx L' :=
  ⟨fun x hx => by
    obtain ⟨⟨k, hk⟩, hl⟩ := h x hx
    exact ⟨(S.each _ hk).1, hl⟩, S.below⟩
end Go.Proofs.YthafjbegkifekaaDoor
end
section
namespace Go.Proofs.YthafjbegkifekaaDoor
open Go.RowKit NatM

/-- a lent list: its block holds it, and the two marks behind -/
def LentB (w : World) (g : Nat) (l : List Nat) : Prop := w.heap[g]? = some (.cells (cells32 (l ++ [7001, 7002])).toArray 83 (0, 0))
theorem LentB.lt {w : World} {g : Nat} {l : List Nat} (h : LentB w g l) : g < w.heap.size := heap_ltN h
theorem LentB.cell {w : World} {g : Nat} {l : List Nat} (h : LentB w g l) {j x : Nat} (hx : (l ++ [7001, 7002])[j]? = some x) : w.cell? ⟨g, j, none⟩ = some (.int .u32 (x : Int)) := by
  rw [cell_of_row w g j _ _ _ h, List.getElem?_toArray]
  exact cells32_get hx
theorem LentB.block {w w' : World} {g : Nat} {l : List Nat} (hb : w'.heap[g]? = w.heap[g]?) (h : LentB w g l) : LentB w' g l := hb.trans h
theorem LentB.below {w w' : World} {g : Nat} {l : List Nat} (hb : Below w.heap.size w w') (h : LentB w g l) : LentB w' g l := h.block (hb.block g h.lt)
theorem LentB.own {w : World} {g base : Nat} {l : List Nat} (hB : base ≤ g) (ok : ok32 l) (hl : l.length ≤ 100000) (h : LentB w g l) : NatO base w (some ⟨g, 0, none⟩) (l.length + 2) l := by
  refine ⟨⟨by rw [cells32_length, Nat.mul_one], Or.inr ⟨g, l.length + 2, _, rfl, hB, h, by omega, by unfold maxLen; omega, by simp [cells32], ?_⟩⟩, ok⟩
  rw [List.toList_toArray, Nat.mul_one]
  unfold cells32
  rw [List.map_append, List.take_left' (by simp)]
theorem LentB.of_own {w : World} {g base : Nat} {l : List Nat} (h : NatO base w (some ⟨g, 0, none⟩) l.length l) (hfull : ∃ m, l = m ++ [7001, 7002]) : ∃ m, l = m ++ [7001, 7002] ∧ LentB w g m := by
  obtain ⟨m, rfl⟩ := hfull
  refine ⟨m, rfl, ?_⟩
  obtain ⟨hx, h1 | ⟨g', cap, cur, hv, hg, hh, hc, hm, hs, ht⟩⟩ := h.own
  · simp at h1
  · obtain ⟨rfl, rfl⟩ : g = g' ∧ (m ++ [7001, 7002]).length = cap := by simpa using hv
    unfold LentB
    rw [hh]
    congr 2
    rw [← Array.toList_inj, List.toList_toArray, ← ht, Nat.mul_one, List.take_of_length_le (by rw [Array.length_toList]; omega)]

def LentPost (w : World) (l : List Nat) (e : Ending) (w' : World) : Prop :=
  e = .returned (.slice (some ⟨w.heap.size, 0, none⟩) l.length (l.length + 2)) ∧ LentB w' w.heap.size l ∧ Below w.heap.size w w'
theorem splice_zero (cs : List Value) (n : Nat) (v : Value) : splice (List.replicate n v) 0 cs = cs ++ List.replicate (n - cs.length) v := by
  unfold splice
  simp
theorem size32 : (Tryd.prog.info? 83).map (·.size) = some 1 := by kernel_rfl

set_option maxRecDepth 100000 in
set_option maxHeartbeats 1000000 in
theorem lent_any (p : Option Addr) (cap : Nat) (l : List Nat) (w : World) (h : NatV w.heap.size w p cap l) (hl : l.length ≤ 1000) :
    Calls Tryd.prog 26 #[.slice p l.length cap] w (LentPost w l) := by
  obtain ⟨n, hn⟩ : ∃ n, n = l.length + 2 := ⟨_, rfl⟩
  have hmk := make32 n (by omega)
  have hn2 : (l.length : Int) + 2 = (n : Int) := by omega
  have H := Lib.hid (And.intro h hn)
  have hln : l.length < n := by omega
  have hln1 : l.length + 1 < n := by omega
  have hnb : n ≤ 1002 := by omega
  clear h hn
  go_enter Tryd.func26, Tryd.ntmps26
  have hB1 : Below w.heap.size w (w.alloc (.cells (madeCells #[.int .u32 0] n) 83)) := (Below.refl _ _).alloc (Nat.le_refl _) _
  have HB1 := Lib.hid hB1
  have hh : (w.alloc (.cells (madeCells #[.int .u32 0] n) 83)).heap[w.heap.size]? = some (.cells (List.replicate n (Value.int .u32 0)).toArray 83 (0, 0)) := by
    rw [heap_newN, ← madeCells_list]
  have HHH := Lib.hid hh
  clear hB1 hh
  go_wp2_with (with_reducible refine wpList_copy_splice rfl (.tmp 8) (.tmp 9) 52 52 rfl 83 Tryd.underlying52 size32 (some ⟨w.heap.size, 0, none⟩) p n n l.length cap rfl rfl w.heap.size 0 (List.replicate n (Value.int .u32 0)) 83 HHH.out (cells32 l) ?k1 ?k2 ?k3 ?k4 w.heap.size w HB1.out (Nat.le_refl _) ?_)
  case k1 => rw [cells32_length]; exact (Nat.min_eq_left (by omega)).symm
  case k2 =>
    intro hpos
    rw [cells32_length] at hpos
    obtain ⟨b, off, rfl, hb, hc⟩ := H.out.1.cell (List.length_pos_iff.1 hpos)
    refine ⟨_, rfl, fun j v hv => ?_⟩
    rw [add_off]
    unfold cells32 at hv
    rw [List.getElem?_map] at hv
    obtain ⟨x, hx, rfl⟩ := Option.map_eq_some_iff.1 hv
    exact (HB1.out.cell (p := ⟨b, off + j, none⟩) hb).trans (hc j x hx)
  case k3 => rw [cells32_length, List.length_replicate]; omega
  case k4 =>
    intro v hv
    unfold cells32 at hv
    obtain ⟨x, _, rfl⟩ := List.mem_map.1 hv
    rfl
  intro w1 hw1 hb1
  have hn0 : n = l.length + 2 := H.out.2
  have hw2 : w1.heap[w.heap.size]? = some (.cells (cells32 l ++ [Value.int .u32 0, Value.int .u32 0]).toArray 83 (0, 0)) := by
    have h := hw1.out
    rw [splice_zero, cells32_length, show n - l.length = 2 by omega] at h
    exact h
  have hc1 : w1.cell? ⟨w.heap.size, l.length, none⟩ = some (.int .u32 0) := by
    rw [cell_of_row w1 _ _ _ _ _ hw2, List.getElem?_toArray, List.getElem?_append_right (by rw [cells32_length]; exact Nat.le_refl _), cells32_length, Nat.sub_self]
    rfl
  have hc2 : w1.cell? ⟨w.heap.size, l.length + 1, none⟩ = some (.int .u32 0) := by
    rw [cell_of_row w1 _ _ _ _ _ hw2, List.getElem?_toArray, List.getElem?_append_right (by rw [cells32_length]; omega), cells32_length, show l.length + 1 - l.length = 1 by omega]
    rfl
  have hf1 : ∀ j, w1.frozen? ⟨w.heap.size, j, none⟩ = false := fun j => frozen_of_row w1 w.heap.size j _ _ hw2
  have hff1 := hf1 l.length
  have hff2 := hf1 (l.length + 1)
  have hnn : n ≤ l.length + 2 := by omega
  have hB2 : Below w.heap.size w ((w1.setCell ⟨w.heap.size, l.length, none⟩ (.int .u32 7001)).setCell ⟨w.heap.size, l.length + 1, none⟩ (.int .u32 7002)) := (hb1.setCell (p := ⟨w.heap.size, l.length, none⟩) (Nat.le_refl _) _).setCell (p := ⟨w.heap.size, l.length + 1, none⟩) (Nat.le_refl _) _
  have hL : LentB ((w1.setCell ⟨w.heap.size, l.length, none⟩ (.int .u32 7001)).setCell ⟨w.heap.size, l.length + 1, none⟩ (.int .u32 7002)) w.heap.size l := by
    unfold LentB
    rw [heap_setCell_same _ w.heap.size (l.length + 1) _ _ _ (heap_setCell_same w1 w.heap.size l.length _ _ _ hw2)]
    congr 2
    rw [← Array.toList_inj]
    simp only [Array.toList_setIfInBounds]
    rw [List.set_append_right _ _ (by rw [cells32_length]; exact Nat.le_refl _), List.set_append_right _ _ (by rw [cells32_length]; omega), cells32_length, Nat.sub_self, show l.length + 1 - l.length = 1 by omega]
    simp [cells32]
  have HF := Lib.hid (And.intro hL hB2)
  clear hw1 hb1 hw2 hf1 hn0 hL hB2 hmk HB1 HHH
  go_wp2_with fail
  go_ret
  exact ⟨by rw [H.out.2]; rfl, HF.out.1, HF.out.2⟩
set_option maxRecDepth 100000 in
set_option maxHeartbeats 1000000 in
theorem kept_any (g : Nat) (p : Option Addr) (n m c : Nat) (l : List Nat) (w : World) (hg : LentB w g l) (h : NatV w.heap.size w p c l) (hl : l.length ≤ 1000) (hn : n = l.length) (hm : m = l.length + 2) :
    Calls Tryd.prog 33 #[.slice (some ⟨g, 0, none⟩) n m, .slice p l.length c] w (Tells (.bool true) w) := by
  subst hn hm
  have hcap := h.cap
  unfold maxLen at hcap
  have hle := h.le
  have hsame := nats_same (some ⟨g, 0, none⟩) p (l.length + 2) c l w ((LentB.own (base := 0) (Nat.zero_le _) h.ok (by omega) hg).toV) h
  have HG := Lib.hid hg
  clear hg h
  go_enter Tryd.func33, Tryd.ntmps33
  go_wp2_with fail
  refine hsame.mono ?_
  clear hsame
  rintro e w1 ⟨rfl, hb1⟩
  have hc1 : w1.cell? ⟨g, l.length, none⟩ = some (.int .u32 7001) := (HG.out.below hb1).cell (by simp)
  have hc2 : w1.cell? ⟨g, l.length + 1, none⟩ = some (.int .u32 7002) := (HG.out.below hb1).cell (by rw [List.getElem?_append_right (by omega), show l.length + 1 - l.length = 1 by omega]; rfl)
  have HB := Lib.hid hb1
  clear hb1
  go_wp2_with fail
  go_ret
  exact ⟨rfl, HB.out⟩

end Go.Proofs.YthafjbegkifekaaDoor
end
