/- NatKeeps: its walk: whatever the two numbers, it answers true and old memory stays. -/
import Derived.Test.YtmjaohddmoiodaaDoorLentNat
import Derived.Test.YtmjaohddmoiodaaDoorApartNatsB
namespace Go.Proofs.YtmjaohddmoiodaaDoor
open Go.RowKit Go.Extern.Stop Go.Stop Go.Extern NatM

/-- A number that was made: between two sizes of the heap lies its block. -/
abbrev Mk := Nt × Nat × Nat
/-- What the law knows on its way: the two lent lists (below B), and the numbers that were made (from B on), the newest first. -/
structure Kp (w wx : World) (B gx gy : Nat) (a b : List Nat) (Lo : List Mk) : Prop where
  below : Below w.heap.size w wx
  x : LentB wx gx a
  y : LentB wx gy b
  hx : w.heap.size ≤ gx ∧ gx < B
  hy : w.heap.size ≤ gy ∧ gy < B
  ne : gx ≠ gy
  base : B ≤ wx.heap.size
  own : ∀ (i : Nat) (e : Mk), Lo[i]? = some e → NatO e.2.1 wx e.1.1 e.1.2.1 e.1.2.2 ∧ B ≤ e.2.1 ∧ (∀ k, (Nt.val e.1).ownBlock = some k → k < e.2.2) ∧ e.2.2 ≤ wx.heap.size
  apart : ∀ (i j : Nat) (e f : Mk), i < j → Lo[i]? = some e → Lo[j]? = some f → f.2.2 ≤ e.2.1
theorem Kp.next {w wx w' : World} {B gx gy : Nat} {a b : List Nat} {Lo : List Mk} (K : Kp w wx B gx gy a b Lo) (hb : Below wx.heap.size wx w') : Kp w w' B gx gy a b Lo :=
  ⟨K.below.trans (hb.mono K.below.size), K.x.below hb, K.y.below hb, K.hx, K.hy, K.ne, Nat.le_trans K.base hb.size, fun i e he => by
    obtain ⟨h1, h2, h3, h4⟩ := K.own i e he
    exact ⟨h1.next hb, h2, h3, Nat.le_trans h4 hb.size⟩, K.apart⟩
theorem Kp.alloc {w wx : World} {B gx gy : Nat} {a b : List Nat} {Lo : List Mk} (K : Kp w wx B gx gy a b Lo) (o : Obj) : Kp w (wx.alloc o) B gx gy a b Lo := K.next ((Below.refl _ _).alloc (Nat.le_refl _) _)
theorem NatO.lt {base : Nat} {w : World} {p : Option Addr} {c : Nat} {l : List Nat} (h : NatO base w p c l) : ∀ k, (Nt.val (p, c, l)).ownBlock = some k → base ≤ k ∧ k < w.heap.size := fun k hk => h.own.lt k hk
theorem Kp.push {w wx w' : World} {B gx gy : Nat} {a b : List Nat} {Lo : List Mk} (K : Kp w wx B gx gy a b Lo) (hb : Below wx.heap.size wx w') {p : Option Addr} {c : Nat} {l : List Nat} (ho : NatO wx.heap.size w' p c l) : Kp w w' B gx gy a b (((p, c, l), wx.heap.size, w'.heap.size) :: Lo) := by
  have K' := K.next hb
  refine ⟨K'.below, K'.x, K'.y, K'.hx, K'.hy, K'.ne, K'.base, fun i e he => ?_, fun i j e f hij he hf => ?_⟩
  · cases i with
    | zero =>
      obtain rfl := Option.some.inj he
      exact ⟨ho, K.base, fun k hk => (ho.lt k hk).2, Nat.le_refl _⟩
    | succ i => exact K'.own i e he
  · cases j with
    | zero => omega
    | succ j =>
      cases i with
      | zero =>
        obtain rfl := Option.some.inj he
        exact (K.own j f hf).2.2.2
      | succ i => exact K'.apart i j e f (by omega) he hf
theorem Kp.get {w wx : World} {B gx gy : Nat} {a b : List Nat} {Lo : List Mk} (K : Kp w wx B gx gy a b Lo) {i : Nat} {p : Option Addr} {c lo hi : Nat} {l : List Nat} (h : Lo[i]? = some ((p, c, l), lo, hi)) : NatV wx.heap.size wx p c l := (K.own i _ h).1.toV
theorem Kp.xv {w wx : World} {B gx gy : Nat} {a b : List Nat} {Lo : List Mk} (K : Kp w wx B gx gy a b Lo) (ok : ok32 a) (hl : a.length ≤ 100000) : NatV wx.heap.size wx (some ⟨gx, 0, none⟩) (a.length + 2) a := (LentB.own (base := 0) (Nat.zero_le _) ok hl K.x).toV
theorem Kp.yv {w wx : World} {B gx gy : Nat} {a b : List Nat} {Lo : List Mk} (K : Kp w wx B gx gy a b Lo) (ok : ok32 b) (hl : b.length ≤ 100000) : NatV wx.heap.size wx (some ⟨gy, 0, none⟩) (b.length + 2) b := (LentB.own (base := 0) (Nat.zero_le _) ok hl K.y).toV
theorem Kp.old {w wx : World} {B gx gy : Nat} {a b : List Nat} {Lo : List Mk} (K : Kp w wx B gx gy a b Lo) {p : Option Addr} {c : Nat} {l : List Nat} (h : NatV w.heap.size w p c l) : NatV wx.heap.size wx p c l := h.next K.below
/-- the lent list x is written -/
theorem Kp.setx {w wx : World} {B gx gy : Nat} {a b : List Nat} {Lo : List Mk} (K : Kp w wx B gx gy a b Lo) (i v : Nat) (hi : i < a.length) : Kp w (wx.setCell ⟨gx, i, none⟩ (.int .u32 (v : Int))) B gx gy (a.set i v) b Lo := by
  have hs : (wx.setCell ⟨gx, i, none⟩ (.int .u32 (v : Int))).heap.size = wx.heap.size := by simp [World.setCell]
  have hg : wx.grownBy (wx.setCell ⟨gx, i, none⟩ (.int .u32 (v : Int))) (some gx) := ⟨rfl, rfl, rfl, by rw [hs]; exact Nat.le_refl _, fun k _ hne => Below.heap_setCell wx ⟨gx, i, none⟩ _ k (fun e => hne (by rw [e]))⟩
  refine ⟨K.below.setCell (p := ⟨gx, i, none⟩) K.hx.1 _, ?_, K.y.block (hg.block gy K.y.lt (by simpa using Ne.symm K.ne)), K.hx, K.hy, K.ne, by rw [hs]; exact K.base, fun k e he => ?_, K.apart⟩
  · unfold LentB
    rw [heap_setCell_same _ gx i _ _ _ K.x]
    congr 2
    rw [← Array.toList_inj]
    simp only [Array.toList_setIfInBounds]
    rw [← cells32_set, List.set_append_left _ _ hi]
  · obtain ⟨h1, h2, h3, h4⟩ := K.own k e he
    refine ⟨⟨h1.own.kept hg ?_, h1.ok⟩, h2, h3, by rw [hs]; exact h4⟩
    cases hb : (Nt.val e.1).ownBlock with
    | none => exact Or.inl hb
    | some z =>
      right
      have h5 := (h1.lt z hb).1
      have h6 := K.hx.2
      have h7 : (Value.slice e.1.1 e.1.2.2.length e.1.2.1).ownBlock = some z := hb
      rw [h7]
      simp
      omega
/-- lists that were made lie apart -/
theorem Kp.parts {w wx : World} {B gx gy : Nat} {a b : List Nat} {Lo : List Mk} (K : Kp w wx B gx gy a b Lo) (Q : Nat) (hQ : wx.heap.size ≤ Q) (Ks : List Nat) (hK : Ks.Nodup) (L : List apartN.Rw) (hL : ∀ (k : Nat) (x : apartN.Rw), L[k]? = some x → ∃ (i : Nat) (e : Mk), Ks[k]? = some i ∧ Lo[i]? = some e ∧ x = (e.1.1, e.1.2.1, e.1.2.2.length)) : apartN.Parts L Q := by
  have key : ∀ (i : Nat) (e : Mk), Lo[i]? = some e → (Nt.val e.1).ownBlock = none ∨ ∃ z, (Nt.val e.1).ownBlock = some z ∧ e.2.1 ≤ z ∧ z < e.2.2 := fun i e he => by
    cases hb : (Nt.val e.1).ownBlock with
    | none => exact Or.inl rfl
    | some z => exact Or.inr ⟨z, rfl, ((K.own i e he).1.lt z hb).1, (K.own i e he).2.2.1 z hb⟩
  refine ⟨fun k k' x x' hx hx' hne => ?_, fun k x hx => ?_⟩
  · obtain ⟨i, e, hi, he, rfl⟩ := hL k x hx
    obtain ⟨j, f, hj, hf, rfl⟩ := hL k' x' hx'
    have hij : i ≠ j := by
      rintro rfl
      obtain ⟨h1, h2⟩ := List.getElem?_eq_some_iff.1 hi
      obtain ⟨h3, h4⟩ := List.getElem?_eq_some_iff.1 hj
      have hp := List.pairwise_iff_getElem.1 hK
      rcases Nat.lt_or_gt_of_ne hne with h | h
      · exact hp k k' h1 h3 h (h2.trans h4.symm)
      · exact hp k' k h3 h1 h (h4.trans h2.symm)
    rcases key i e he with h | ⟨z, h1, h2, h3⟩
    · exact Or.inl h
    · right
      rcases key j f hf with h | ⟨z', h4, h5, h6⟩
      · intro e'
        have : (Nt.val e.1).ownBlock = (Nt.val f.1).ownBlock := e'
        rw [h1, h] at this
        cases this
      · intro e'
        have e2 : (Nt.val e.1).ownBlock = (Nt.val f.1).ownBlock := e'
        rw [h1, h4] at e2
        have e3 := Option.some.inj e2
        rcases Nat.lt_or_gt_of_ne hij with h | h
        · have := K.apart i j e f h he hf; omega
        · have := K.apart j i f e h hf he; omega
  · obtain ⟨i, e, hi, he, rfl⟩ := hL k x hx
    intro e'
    have e2 : (Nt.val e.1).ownBlock = some Q := e'
    have h1 := (K.own i e he).2.2.1 Q e2
    have h2 := (K.own i e he).2.2.2
    omega

theorem add_eq0 (p : Option Addr) (c : Nat) (l : List Nat) (w : World) (h : NatV w.heap.size w p c l) (hl : l.length ≤ 100000) : Calls Tryd.prog 23 #[.slice p l.length c, .slice none 0 0] w (NatPost w (V32 l)) := by
  have := add_any p none c 0 l [] w h (NatV.nothing w) hl (by simp)
  rwa [show V32 l + V32 [] = V32 l from rfl] at this
theorem sub_eq0 (p : Option Addr) (c : Nat) (l : List Nat) (w : World) (h : NatV w.heap.size w p c l) (hl : l.length ≤ 100000) : Calls Tryd.prog 28 #[.slice p l.length c, .slice none 0 0] w (OkPost w (V32 l)) := by
  have := sub_any p none c 0 l [] w h (NatV.nothing w) (Nat.zero_le _) hl
  rwa [show V32 l - V32 [] = V32 l from rfl] at this
def OverOne (w : World) (n : Nat) (e : Ending) (w' : World) : Prop :=
  ∃ p c, e = .returned (.tuple #[.slice p (D32 n).length c, .int .u32 0, .nilIface]) ∧ NatO w.heap.size w' p c (D32 n) ∧ Below w.heap.size w w'
theorem over_one (p : Option Addr) (c : Nat) (l : List Nat) (w : World) (h : NatV w.heap.size w p c l) (hl : l.length ≤ 100000) : Calls Tryd.prog 33 #[.slice p l.length c, .int .u32 1] w (OverOne w (V32 l)) :=
  (over_any p c l 1 w h hl (by omega) (by omega)).mono fun e w' ⟨p', c', he, ho, hb⟩ => by
    rw [Nat.div_one] at he ho
    rw [Nat.mod_one] at he
    exact ⟨p', c', he, ho, hb⟩
theorem cmp_zero (p q : Option Addr) (c d : Nat) (l : List Nat) (w : World) (h : NatV w.heap.size w p c (D32 (V32 l))) (k : NatV w.heap.size w q d l) : Calls Tryd.prog 19 #[.slice p (D32 (V32 l)).length c, .slice q l.length d] w (Tells (.int .i64 0) w) := by
  have := cmp_any p q c d (D32 (V32 l)) l w h k
  unfold cmpV at this
  rwa [V32_D32, cmp_eq] at this
theorem len_sum {a b : List Nat} (ha : ok32 a) (hb : ok32 b) (hal : a.length ≤ 60) (hbl : b.length ≤ 60) : (D32 (V32 a + V32 b)).length ≤ 61 := len_add (j := 60) (k := 60) (len_of ha hal) (len_of hb hbl)
theorem len_prod {a b : List Nat} (ha : ok32 a) (hb : ok32 b) (hal : a.length ≤ 60) (hbl : b.length ≤ 60) : (D32 (V32 a * V32 b)).length ≤ 120 := len_mul (j := 60) (k := 60) (len_of ha hal) (len_of hb hbl)
theorem own_choose {B : Nat} {w : World} {L : List apartN.Rw} (h : ∀ (k : Nat) (x : apartN.Rw), L[k]? = some x → ∃ xs, w.ownsRow B apartN.E 1 x.val x.2.2 xs) : ∃ C, apartN.OwnAll B w L C := by
  have key : ∀ k : Nat, ∃ xs : List Value, ∀ x : apartN.Rw, L[k]? = some x → w.ownsRow B apartN.E 1 x.val x.2.2 xs := fun k => by
    cases hk : L[k]? with
    | none => exact ⟨[], fun x hx => by cases hx⟩
    | some y =>
      obtain ⟨xs, hxs⟩ := h k y hk
      exact ⟨xs, fun x hx => by obtain rfl := Option.some.inj hx; exact hxs⟩
  exact ⟨fun k => Classical.choose (key k), fun k x hx => Classical.choose_spec (key k) x hx⟩
theorem NatO.toV_of {base : Nat} {w w' : World} {p : Option Addr} {c : Nat} {l : List Nat} (h : NatO base w p c l) (hs : w.heap.size ≤ w'.heap.size) (hb : ∀ z, base ≤ z → z < w.heap.size → w'.heap[z]? = w.heap[z]?) : NatV w'.heap.size w' p c l := by
  have hv := h.toV
  refine ⟨hv.ok, hv.le, hv.cap, hv.nil, fun hn => ?_⟩
  obtain ⟨g, rfl, hg, hgl, hc, _⟩ := h.shape (List.length_pos_iff.2 hn)
  exact ⟨g, 0, rfl, by omega, fun j x hx => by rw [Nat.zero_add]; exact (World.cell?_of_block (hb g hg hgl)).trans (hc j x hx)⟩

theorem add_eq0n (p : Option Addr) (n c : Nat) (l : List Nat) (w : World) (hn : n = l.length) (h : NatV w.heap.size w p c l) (hl : l.length ≤ 100000) : Calls Tryd.prog 23 #[.slice p n c, .slice none 0 0] w (NatPost w (V32 l)) := by
  subst hn
  exact add_eq0 p c l w h hl
theorem Kp.xvn {w wx : World} {B gx gy n : Nat} {a b : List Nat} {Lo : List Mk} (K : Kp w wx B gx gy a b Lo) (hn : a.length = n) (ok : ok32 a) (hl : a.length ≤ 100000) : NatV wx.heap.size wx (some ⟨gx, 0, none⟩) (n + 2) a := by
  subst hn
  exact K.xv ok hl

theorem apart_n (B : Nat) (L : List apartN.Rw) (n Q qo cap : Nat) (w : World) (hn : n = L.length) (hB : B ≤ w.heap.size) (hP : apartN.Parts L Q) (C0 : Nat → List Value) (hO : apartN.OwnAll B w L C0) (hS : apartN.Sit w Q qo L) (hl : L.length ≤ 1000) (hlen : ∀ x ∈ L, x.2.2 ≤ 100000) (hc : L.length ≤ cap) (hcm : cap ≤ 9223372036854775807) :
    Calls Tryd.prog 36 #[.slice (some ⟨Q, qo, none⟩) n cap] w (apartN.TruePost L w) := by
  subst hn
  exact apartN.apart_any B L Q qo cap w hB hP C0 hO hS hl hlen hc hcm

theorem LentB.vn {w : World} {g n : Nat} {l : List Nat} (h : LentB w g l) (hn : l.length = n) (ok : ok32 l) (hl : l.length ≤ 100000) : NatV w.heap.size w (some ⟨g, 0, none⟩) (n + 2) l := by
  subst hn
  exact (LentB.own (base := 0) (Nat.zero_le _) ok hl h).toV

def BumpRel (w : World) (B gx gy n : Nat) (b : List Nat) (Lo : List Mk) (v : Value) (wr : World) : Prop :=
  ∃ (i : Nat) (t : List Nat), i ≤ n ∧ v = .int .i64 (i : Int) ∧ t.length = n ∧ ok32 t ∧ Kp w wr B gx gy t b Lo

set_option maxRecDepth 100000 in
set_option maxHeartbeats 16000000 in
theorem natkeeps_any (p q : Option Addr) (cp cq : Nat) (a b : List Nat) (w : World) (ha : NatV w.heap.size w p cp a) (hb : NatV w.heap.size w q cq b) :
    Calls Tryd.prog 9 #[.slice p a.length cp, .slice q b.length cq] w (Tells (.bool true) w) := by
  have HA := Lib.hid (And.intro ha hb)
  have hcap := ha.cap
  have hle := ha.le
  have hcap2 := hb.cap
  have hle2 := hb.le
  unfold maxLen at hcap hcap2
  clear ha hb
  go_enter Tryd.func9, Tryd.ntmps9
  go_wp2_with fail
  refine (awake_any _).mono ?_
  rintro e w1 ⟨rfl, hb1⟩
  have B1 := Lib.hid hb1
  clear hb1
  by_cases hal : 60 < a.length
  · go_wp2_with fail
    go_ret
    exact ⟨rfl, B1.out⟩
  by_cases hbl : 60 < b.length
  · go_wp2_with fail
    go_ret
    exact ⟨rfl, B1.out⟩
  go_wp2_with fail
  refine (lent_any p cp a _ (HA.out.1.next B1.out) (by omega)).mono ?_
  rintro e w2 ⟨rfl, hx, hb2⟩
  have B2 := Lib.hid (And.intro hx hb2)
  clear hx hb2
  go_wp2_with fail
  refine (lent_any q cq b _ ((HA.out.2.next B1.out).next B2.out.2) (by omega)).mono ?_
  rintro e w3 ⟨rfl, hy, hb3⟩
  obtain ⟨gx, hgx⟩ : ∃ gx, w1.heap.size = gx := ⟨_, rfl⟩
  obtain ⟨gy, hgy⟩ : ∃ gy, w2.heap.size = gy := ⟨_, rfl⟩
  have hK : Kp w w3 w3.heap.size gx gy a b [] := by
    have h2 := B2.out.1.lt
    have h3 := B1.out.size
    have h4 := B2.out.2.size
    have h5 := hb3.size
    have h6 := hy.lt
    refine ⟨(B1.out.trans (B2.out.2.mono h3)).trans (hb3.mono (by omega)), ?_, ?_, ⟨by omega, by omega⟩, ⟨by omega, by omega⟩, by omega, Nat.le_refl _, fun i e he => by simp at he, fun i j e f _ he => by simp at he⟩
    · rw [← hgx]; exact B2.out.1.below hb3
    · rw [← hgy]; exact hy
  rw [hgx, hgy]
  obtain ⟨B, hB⟩ : ∃ B, w3.heap.size = B := ⟨_, rfl⟩
  rw [hB] at hK
  have K3 := Lib.hid hK
  have HOK := Lib.hid (And.intro HA.out.1.ok HA.out.2.ok)
  have hal' : a.length ≤ 60 := by omega
  have hbl' : b.length ≤ 60 := by omega
  clear hK hy hb3 B2 B1 hgx hgy hB hal hbl
  have hy1 : V32 [1] = 1 := by decide
  go_wp2_with fail
  refine (add_any _ _ _ _ a b _ (K3.out.xv HOK.out.1 (by omega)) (K3.out.yv HOK.out.2 (by omega)) (by omega) (by omega)).mono ?_
  rintro e w4 ⟨p4, c4, rfl, ho, hb⟩
  have K4 := Lib.hid (K3.out.push hb ho)
  clear ho hb K3
  go_wp2_with fail
  refine (add_any _ _ _ _ a b _ (K4.out.xv HOK.out.1 (by omega)) (K4.out.yv HOK.out.2 (by omega)) (by omega) (by omega)).mono ?_
  rintro e w5 ⟨p5, c5, rfl, ho, hb⟩
  have K5 := Lib.hid (K4.out.push hb ho)
  clear ho hb K4
  go_wp2_with fail
  refine (add_eq0 _ _ a _ (K5.out.xv HOK.out.1 (by omega)) (by omega)).mono ?_
  rintro e w6 ⟨p6, c6, rfl, ho, hb⟩
  have K6 := Lib.hid (K5.out.push hb ho)
  clear ho hb K5
  have K106 := Lib.hid (And.intro (K6.out.alloc (.cells #[.int .u32 1] 27)) (NatV.laid (w := w6) [1] #[.int .u32 1] 27 rfl (by decide) (ok_of (by decide))))
  clear K6
  go_wp2_with fail
  refine (mul_eq _ _ _ _ _ _ a [1] _ rfl rfl (K106.out.1.xv HOK.out.1 (by omega)) K106.out.2 (by omega) (by decide)).mono ?_
  rintro e w7 ⟨p7, c7, rfl, ho, hb⟩
  rw [hy1, Nat.mul_one] at ho ⊢
  have K7 := Lib.hid (K106.out.1.push hb ho)
  clear ho hb K106
  go_wp2_with fail
  refine (mul_any _ _ _ _ a b _ (K7.out.xv HOK.out.1 (by omega)) (K7.out.yv HOK.out.2 (by omega)) (by omega) (by omega)).mono ?_
  rintro e w8 ⟨p8, c8, rfl, ho, hb⟩
  have K8 := Lib.hid (K7.out.push hb ho)
  clear ho hb K7
  have K208 := Lib.hid (And.intro (K8.out.alloc (.cells #[.slice (some ⟨gx, 0, none⟩) a.length (a.length + 2)] 25)) (NatsV.laid (w := w8) [(some ⟨gx, 0, none⟩, a.length + 2, a)] #[.slice (some ⟨gx, 0, none⟩) a.length (a.length + 2)] 25 rfl (by simp) (fun x hx => by
    simp only [List.mem_cons, List.not_mem_nil, or_false] at hx
    subst hx
    exact (K8.out.xv HOK.out.1 (by omega)))))
  clear K8
  have hsv : sumV [(some ⟨gx, 0, none⟩, a.length + 2, a)] = V32 a := by simp [sumV]
  go_wp2_with fail
  refine (sum_any _ 1 1 [(some ⟨gx, 0, none⟩, a.length + 2, a)] _ rfl K208.out.2 (by simp) (fun x hx => by
    simp only [List.mem_cons, List.not_mem_nil, or_false] at hx
    subst hx
    show a.length ≤ 100000
    omega)).mono ?_
  rintro e w9 ⟨p9, c9, rfl, ho, hb⟩
  rw [hsv] at ho ⊢
  have K9 := Lib.hid (K208.out.1.push hb ho)
  clear ho hb hsv K208
  go_wp2_with fail
  refine (sub_eq0 _ _ a _ (K9.out.xv HOK.out.1 (by omega)) (by omega)).mono ?_
  rintro e w10 ⟨p10, c10, rfl, ho, hb⟩
  have K10 := Lib.hid (K9.out.push hb ho)
  clear ho hb K9
  go_wp2_with fail
  refine (over_one _ _ a _ (K10.out.xv HOK.out.1 (by omega)) (by omega)).mono ?_
  rintro e w11 ⟨p11, c11, rfl, ho, hb⟩
  have K11 := Lib.hid (K10.out.push hb ho)
  clear ho hb K10
  go_wp2_with fail
  refine (kept_any gx p _ _ cp a _ K11.out.x (K11.out.old HA.out.1) (by omega) rfl rfl).mono ?_
  rintro e w12 ⟨rfl, hb⟩
  have K12 := Lib.hid (K11.out.next hb)
  clear hb K11
  go_wp2_with fail
  refine (kept_any gy q _ _ cq b _ K12.out.y (K12.out.old HA.out.2) (by omega) rfl rfl).mono ?_
  rintro e w13 ⟨rfl, hb⟩
  have K13 := Lib.hid (K12.out.next hb)
  clear hb K12
  go_wp2_with fail
  refine (nats_same _ _ _ _ _ _ (K13.out.get (i := 7) rfl) (K13.out.get (i := 6) rfl)).mono ?_
  rintro e w14 ⟨rfl, hb⟩
  have K14 := Lib.hid (K13.out.next hb)
  clear hb K13
  go_wp2_with fail
  refine (cmp_zero _ _ _ _ a _ (K14.out.get (i := 5) rfl) (K14.out.old HA.out.1)).mono ?_
  rintro e w15 ⟨rfl, hb⟩
  have K15 := Lib.hid (K14.out.next hb)
  clear hb K14
  go_wp2_with fail
  refine (cmp_zero _ _ _ _ a _ (K15.out.get (i := 4) rfl) (K15.out.old HA.out.1)).mono ?_
  rintro e w16 ⟨rfl, hb⟩
  have K16 := Lib.hid (K15.out.next hb)
  clear hb K15
  go_wp2_with fail
  refine (cmp_zero _ _ _ _ a _ (K16.out.get (i := 2) rfl) (K16.out.old HA.out.1)).mono ?_
  rintro e w17 ⟨rfl, hb⟩
  have K17 := Lib.hid (K16.out.next hb)
  clear hb K16
  go_wp2_with fail
  refine (cmp_zero _ _ _ _ a _ (K17.out.get (i := 1) rfl) (K17.out.old HA.out.1)).mono ?_
  rintro e w18 ⟨rfl, hb⟩
  have K18 := Lib.hid (K17.out.next hb)
  clear hb K17
  go_wp2_with fail
  refine (cmp_zero _ _ _ _ a _ (K18.out.get (i := 0) rfl) (K18.out.old HA.out.1)).mono ?_
  rintro e w19 ⟨rfl, hb⟩
  have K19 := Lib.hid (K18.out.next hb)
  clear hb K18
  go_wp2_with fail
  refine (copy_any _ _ _ _ _ rfl (K19.out.get (i := 6) rfl) (by have := len_sum HOK.out.1 HOK.out.2 hal' hbl'; omega)).mono ?_
  rintro e w20 ⟨p20, c20, rfl, ho, hb⟩
  have K20 := Lib.hid (K19.out.push hb ho)
  clear ho hb K19
  obtain ⟨Lo, hLo⟩ : ∃ Lo : List Mk, Lo = [((p20, c20, D32 (V32 a + V32 b)), w19.heap.size, w20.heap.size), ((p11, c11, D32 (V32 a)), w10.heap.size, w11.heap.size), ((p10, c10, D32 (V32 a)), w9.heap.size, w10.heap.size), ((p9, c9, D32 (V32 a)), (w8.alloc (.cells #[.slice (some ⟨gx, 0, none⟩) a.length (a.length + 2)] 25)).heap.size, w9.heap.size), ((p8, c8, D32 (V32 a * V32 b)), w7.heap.size, w8.heap.size), ((p7, c7, D32 (V32 a)), (w6.alloc (.cells #[.int .u32 1] 27)).heap.size, w7.heap.size), ((p6, c6, D32 (V32 a)), w5.heap.size, w6.heap.size), ((p5, c5, D32 (V32 a + V32 b)), w4.heap.size, w5.heap.size), ((p4, c4, D32 (V32 a + V32 b)), w3.heap.size, w4.heap.size)] := ⟨_, rfl⟩
  have hK : Kp w w20 B gx gy a b Lo := by rw [hLo]; exact K20.out
  have HLo := Lib.hid hLo
  have HK := Lib.hid hK
  clear hLo hK K20
  go_wp2_with fail
  go_loopw [19] (fun v wr => BumpRel w B gx gy a.length b Lo v wr) (fun v _ => a.length - (intOf v).toNat)
  case atStart => exact ⟨0, a, Nat.zero_le _, rfl, rfl, HOK.out.1, HK.out⟩
  case round =>
    obtain ⟨i, t, hi, rfl, htl, hto, hK⟩ := hrel
    have HT := Lib.hid (And.intro htl (And.intro hto hK))
    by_cases hlt : i < a.length
    · obtain ⟨x, hx⟩ := some_get (l := t) (k := i) (by omega)
      have hcx : wr.cell? ⟨gx, i, none⟩ = some (.int .u32 (x : Int)) := hK.x.cell (by rw [List.getElem?_append_left (by omega)]; exact hx)
      have hfx : wr.frozen? ⟨gx, i, none⟩ = false := frozen_of_row wr gx i _ _ hK.x
      have hxl : x < 4294967296 := ok_get hto hx
      have hnew := hK.setx i ((x + 12345) % 4294967296) (by omega)
      have HN := Lib.hid (And.intro hnew (okB_set hto (Nat.mod_lt (x + 12345) (by omega)) i))
      clear hnew hK hto hx
      go_wp2_with fail
      go_roundw
      case rel => exact ⟨i + 1, _, by omega, by go_num, by rw [List.length_set]; exact HT.out.1, HN.out.2, HN.out.1⟩
      case measure => simp [intOf]; omega
    · have hta : t.length ≤ 60 := by omega
      have K21 := Lib.hid hK
      clear hK hto htl
      go_wp2_with fail
      refine (copy_any _ _ _ t _ HT.out.1.symm (K21.out.xvn HT.out.1 HT.out.2.1 (by omega)) (by omega)).mono ?_
      rintro e w22 ⟨p22, c22, rfl, ho, hb⟩
      have K22 := Lib.hid (K21.out.push hb ho)
      clear ho hb K21
      go_wp2_with fail
      refine (nats_same _ _ _ _ _ _ (K22.out.get (i := 9) (by rw [HLo.out]; rfl)) (K22.out.get (i := 1) (by rw [HLo.out]; rfl))).mono ?_
      rintro e w23 ⟨rfl, hb⟩
      have K23 := Lib.hid (K22.out.next hb)
      clear hb K22
      go_wp2_with fail
      refine (cmp_zero _ _ _ _ a _ (K23.out.get (i := 7) (by rw [HLo.out]; rfl)) (K23.out.old HA.out.1)).mono ?_
      rintro e w24 ⟨rfl, hb⟩
      have K24 := Lib.hid (K23.out.next hb)
      clear hb K23
      go_wp2_with fail
      refine (add_eq0n _ _ _ t _ HT.out.1.symm (K24.out.xvn HT.out.1 HT.out.2.1 (by omega)) (by omega)).mono ?_
      rintro e w25 ⟨p25, c25, rfl, ho, hb⟩
      have K25 := Lib.hid (K24.out.push hb ho)
      clear ho hb K24
      go_wp2_with fail
      refine (cmp_zero _ _ _ _ t _ (K25.out.get (i := 0) rfl) (K25.out.get (i := 1) rfl)).mono ?_
      rintro e w26 ⟨rfl, hb⟩
      have K26 := Lib.hid (K25.out.next hb)
      clear hb K25
      have hL8 : ∀ (k : Nat) (x : apartN.Rw), ([(p4, c4, (D32 (V32 a + V32 b)).length), (p5, c5, (D32 (V32 a + V32 b)).length), (p6, c6, (D32 (V32 a)).length), (p7, c7, (D32 (V32 a)).length), (p8, c8, (D32 (V32 a * V32 b)).length), (p9, c9, (D32 (V32 a)).length), (p10, c10, (D32 (V32 a)).length), (p11, c11, (D32 (V32 a)).length)] : List apartN.Rw)[k]? = some x → ∃ (i : Nat) (e : Mk), ([10, 9, 8, 7, 6, 5, 4, 3] : List Nat)[k]? = some i ∧ (((p25, c25, D32 (V32 t)), w24.heap.size, w25.heap.size) :: ((p22, c22, t), wr.heap.size, w22.heap.size) :: Lo)[i]? = some e ∧ x = (e.1.1, e.1.2.1, e.1.2.2.length) := fun k x hx => by
        rcases k with _ | _ | _ | _ | _ | _ | _ | _ | k
        · obtain rfl := Option.some.inj hx
          exact ⟨10, ((p4, c4, D32 (V32 a + V32 b)), w3.heap.size, w4.heap.size), rfl, (by show Lo[8]? = _; rw [HLo.out]; rfl), rfl⟩
        · obtain rfl := Option.some.inj hx
          exact ⟨9, ((p5, c5, D32 (V32 a + V32 b)), w4.heap.size, w5.heap.size), rfl, (by show Lo[7]? = _; rw [HLo.out]; rfl), rfl⟩
        · obtain rfl := Option.some.inj hx
          exact ⟨8, ((p6, c6, D32 (V32 a)), w5.heap.size, w6.heap.size), rfl, (by show Lo[6]? = _; rw [HLo.out]; rfl), rfl⟩
        · obtain rfl := Option.some.inj hx
          exact ⟨7, ((p7, c7, D32 (V32 a)), (w6.alloc (.cells #[.int .u32 1] 27)).heap.size, w7.heap.size), rfl, (by show Lo[5]? = _; rw [HLo.out]; rfl), rfl⟩
        · obtain rfl := Option.some.inj hx
          exact ⟨6, ((p8, c8, D32 (V32 a * V32 b)), w7.heap.size, w8.heap.size), rfl, (by show Lo[4]? = _; rw [HLo.out]; rfl), rfl⟩
        · obtain rfl := Option.some.inj hx
          exact ⟨5, ((p9, c9, D32 (V32 a)), (w8.alloc (.cells #[.slice (some ⟨gx, 0, none⟩) a.length (a.length + 2)] 25)).heap.size, w9.heap.size), rfl, (by show Lo[3]? = _; rw [HLo.out]; rfl), rfl⟩
        · obtain rfl := Option.some.inj hx
          exact ⟨4, ((p10, c10, D32 (V32 a)), w9.heap.size, w10.heap.size), rfl, (by show Lo[2]? = _; rw [HLo.out]; rfl), rfl⟩
        · obtain rfl := Option.some.inj hx
          exact ⟨3, ((p11, c11, D32 (V32 a)), w10.heap.size, w11.heap.size), rfl, (by show Lo[1]? = _; rw [HLo.out]; rfl), rfl⟩
        · simp at hx
      have hs26 : w26.heap.size < (w26.alloc (.cells #[.slice p4 (D32 (V32 a + V32 b)).length c4, .slice p5 (D32 (V32 a + V32 b)).length c5, .slice p6 (D32 (V32 a)).length c6, .slice p7 (D32 (V32 a)).length c7, .slice p8 (D32 (V32 a * V32 b)).length c8, .slice p9 (D32 (V32 a)).length c9, .slice p10 (D32 (V32 a)).length c10, .slice p11 (D32 (V32 a)).length c11] 25)).heap.size := by simp
      have hown8 : ∀ (k : Nat) (x : apartN.Rw), ([(p4, c4, (D32 (V32 a + V32 b)).length), (p5, c5, (D32 (V32 a + V32 b)).length), (p6, c6, (D32 (V32 a)).length), (p7, c7, (D32 (V32 a)).length), (p8, c8, (D32 (V32 a * V32 b)).length), (p9, c9, (D32 (V32 a)).length), (p10, c10, (D32 (V32 a)).length), (p11, c11, (D32 (V32 a)).length)] : List apartN.Rw)[k]? = some x → ∃ xs, (w26.alloc (.cells #[.slice p4 (D32 (V32 a + V32 b)).length c4, .slice p5 (D32 (V32 a + V32 b)).length c5, .slice p6 (D32 (V32 a)).length c6, .slice p7 (D32 (V32 a)).length c7, .slice p8 (D32 (V32 a * V32 b)).length c8, .slice p9 (D32 (V32 a)).length c9, .slice p10 (D32 (V32 a)).length c10, .slice p11 (D32 (V32 a)).length c11] 25)).ownsRow B apartN.E 1 x.val x.2.2 xs := fun k x hx => by
        obtain ⟨i, e, _, he, rfl⟩ := hL8 k x hx
        obtain ⟨h1, h2, _, _⟩ := K26.out.own i e he
        exact ⟨_, ((h1.base h2).own.alloc _)⟩
      obtain ⟨C0, hC0⟩ := own_choose hown8
      have hparts := K26.out.parts w26.heap.size (Nat.le_refl _) [10, 9, 8, 7, 6, 5, 4, 3] (by decide) [(p4, c4, (D32 (V32 a + V32 b)).length), (p5, c5, (D32 (V32 a + V32 b)).length), (p6, c6, (D32 (V32 a)).length), (p7, c7, (D32 (V32 a)).length), (p8, c8, (D32 (V32 a * V32 b)).length), (p9, c9, (D32 (V32 a)).length), (p10, c10, (D32 (V32 a)).length), (p11, c11, (D32 (V32 a)).length)] hL8
      have hsit : apartN.Sit (w26.alloc (.cells #[.slice p4 (D32 (V32 a + V32 b)).length c4, .slice p5 (D32 (V32 a + V32 b)).length c5, .slice p6 (D32 (V32 a)).length c6, .slice p7 (D32 (V32 a)).length c7, .slice p8 (D32 (V32 a * V32 b)).length c8, .slice p9 (D32 (V32 a)).length c9, .slice p10 (D32 (V32 a)).length c10, .slice p11 (D32 (V32 a)).length c11] 25)) w26.heap.size 0 [(p4, c4, (D32 (V32 a + V32 b)).length), (p5, c5, (D32 (V32 a + V32 b)).length), (p6, c6, (D32 (V32 a)).length), (p7, c7, (D32 (V32 a)).length), (p8, c8, (D32 (V32 a * V32 b)).length), (p9, c9, (D32 (V32 a)).length), (p10, c10, (D32 (V32 a)).length), (p11, c11, (D32 (V32 a)).length)] := ⟨by simp, fun j x hx => by
        rw [Nat.zero_add, cell_alloc_row]
        rcases j with _ | _ | _ | _ | _ | _ | _ | _ | j
        iterate 8 (obtain rfl := Option.some.inj hx; rfl)
        simp at hx⟩
      have hlens : ∀ x ∈ ([(p4, c4, (D32 (V32 a + V32 b)).length), (p5, c5, (D32 (V32 a + V32 b)).length), (p6, c6, (D32 (V32 a)).length), (p7, c7, (D32 (V32 a)).length), (p8, c8, (D32 (V32 a * V32 b)).length), (p9, c9, (D32 (V32 a)).length), (p10, c10, (D32 (V32 a)).length), (p11, c11, (D32 (V32 a)).length)] : List apartN.Rw), x.2.2 ≤ 100000 := fun x hx => by
        have l1 := len_sum HOK.out.1 HOK.out.2 hal' hbl'
        have l2 := len_prod HOK.out.1 HOK.out.2 hal' hbl'
        have l3 := D32_le HOK.out.1
        simp only [List.mem_cons, List.not_mem_nil, or_false] at hx
        rcases hx with rfl | rfl | rfl | rfl | rfl | rfl | rfl | rfl
        all_goals (simp only []; omega)
      have HAP := Lib.hid (apart_n B [(p4, c4, (D32 (V32 a + V32 b)).length), (p5, c5, (D32 (V32 a + V32 b)).length), (p6, c6, (D32 (V32 a)).length), (p7, c7, (D32 (V32 a)).length), (p8, c8, (D32 (V32 a * V32 b)).length), (p9, c9, (D32 (V32 a)).length), (p10, c10, (D32 (V32 a)).length), (p11, c11, (D32 (V32 a)).length)] 8 w26.heap.size 0 8 (w26.alloc (.cells #[.slice p4 (D32 (V32 a + V32 b)).length c4, .slice p5 (D32 (V32 a + V32 b)).length c5, .slice p6 (D32 (V32 a)).length c6, .slice p7 (D32 (V32 a)).length c7, .slice p8 (D32 (V32 a * V32 b)).length c8, .slice p9 (D32 (V32 a)).length c9, .slice p10 (D32 (V32 a)).length c10, .slice p11 (D32 (V32 a)).length c11] 25)) rfl (Nat.le_trans K26.out.base (by simp)) hparts C0 hC0 hsit (by simp) hlens (Nat.le_refl _) (by omega))
      have HL8 := Lib.hid hL8
      clear hL8 hown8 hC0 hparts hsit hlens
      go_wp2_with fail
      refine HAP.out.mono ?_
      rintro e w27 ⟨rfl, hfr⟩
      have hsz : w26.heap.size < w27.heap.size := Nat.lt_of_lt_of_le hs26 hfr.size
      have hblk : ∀ z, z < w26.heap.size → (z < B ∨ wr.heap.size ≤ z) → w27.heap[z]? = w26.heap[z]? := fun z hz hcase => by
        rw [hfr.block z (Nat.lt_trans hz hs26) (fun k x hx e => by
          obtain ⟨i, e', hki, he, rfl⟩ := HL8.out k x hx
          obtain ⟨h1, h2, h3, _⟩ := K26.out.own i e' he
          have h5 := h1.lt z e
          have h6 := h3 z e
          rcases hcase with h | h
          · omega
          · have hi2 : 1 < i := by
              rcases k with _ | _ | _ | _ | _ | _ | _ | _ | k
              iterate 8 (obtain rfl := Option.some.inj hki; decide)
              simp at hki
            have := K26.out.apart 1 i _ e' hi2 rfl he
            have h7 : e'.2.2 ≤ wr.heap.size := this
            omega)]
        exact Below.heap_alloc _ _ _ hz
      have hB27 : Below w.heap.size w w27 := K26.out.below.trans ⟨hfr.os, hfr.tape, hfr.output, by omega, fun k hk => hblk k (by have := K26.out.below.size; omega) (Or.inl (by have := K26.out.hx; omega))⟩
      have hx27 : LentB w27 gx t := K26.out.x.block (hblk gx K26.out.x.lt (Or.inl K26.out.hx.2))
      have hy27 : LentB w27 gy b := K26.out.y.block (hblk gy K26.out.y.lt (Or.inl K26.out.hy.2))
      have hw27 : NatV w27.heap.size w27 p22 c22 t := ((K26.out.own 1 _ rfl).1).toV_of (by omega) (fun z h1 h2 => hblk z h2 (Or.inr h1))
      have HF := Lib.hid (And.intro hB27 (And.intro hx27 (And.intro hy27 hw27)))
      clear hfr hsz hblk hB27 hx27 hy27 hw27 HAP HL8 K26
      go_wp2_with fail
      refine (nats_eq _ _ _ _ _ _ t _ HT.out.1.symm rfl (HF.out.2.1.vn HT.out.1 HT.out.2.1 (by omega)) HF.out.2.2.2).mono ?_
      rintro e w28 ⟨rfl, hb⟩
      have HG := Lib.hid (And.intro (HF.out.1.trans (hb.mono HF.out.1.size)) (HF.out.2.2.1.below hb))
      clear hb HF
      go_wp2_with fail
      refine (kept_any gy q _ _ cq b _ HG.out.2 (HA.out.2.next HG.out.1) (by omega) rfl rfl).mono ?_
      rintro e w29 ⟨rfl, hb⟩
      have HZ := Lib.hid (HG.out.1.trans (hb.mono HG.out.1.size))
      clear hb HG
      go_wp2_with fail
      go_ret
      exact ⟨rfl, HZ.out⟩
end Go.Proofs.YtmjaohddmoiodaaDoor
