/- plays of edenlaw02: kind 2, with its error.
plays of edenlaw02: kind 4, with its error.
plays of edenlaw02: kind 5, with its error.
plays of edenlaw02: kind 7, with its error. -/
import Derived.Test.YthhighljfjeooaaDoorPlaysP
import Derived.Test.YthhighljfjeooaaDoorRefG
import Derived.Test.YthhighljfjeooaaDoorNatI
import Derived.Test.YthhighljfjeooaaDoorRefJ
import Derived.Test.YthhighljfjeooaaDoorErrNew
import Derived.Test.YthhighljfjeooaaDoorRefL
namespace Go.Proofs.YthhighljfjeooaaDoor
open Go.RowKit Go.Extern.Stop Go.Stop Go.Extern NatM

/-- the three cells of an Err, laid in a block, in any later world -/
theorem err_laid {w2 w3 : World} {a b c : Value} (hb : Below (w2.alloc (.cells #[a, b, c] 72)).heap.size (w2.alloc (.cells #[a, b, c] 72)) w3) : w3.cell? ⟨w2.heap.size, 0, none⟩ = some a ∧ w3.cell? ⟨w2.heap.size, 1, none⟩ = some b ∧ w3.cell? ⟨w2.heap.size, 2, none⟩ = some c := by
  have h := fun j => (hb.cell (p := ⟨w2.heap.size, j, none⟩) (by simp)).trans (cell_alloc_at w2 #[a, b, c] 72 w2.heap.size j rfl)
  exact ⟨h 0, h 1, h 2⟩
theorem bne_self_i (x : Int) : (x != x) = false := by simp
theorem beq_self_i (x : Int) : (x == x) = true := by simp

set_option maxRecDepth 100000 in
set_option maxHeartbeats 8000000 in
theorem plays_2_less (k : Int) (p q : Option Addr) (c e : Nat) (l m : List Nat) (x d : Nat) (n : Int) (s : ByteArray) (L : Value) (w : World) (A : Nat → Addr) (hr : Roots w A) (hT : TypeVar w) (ha : NatV w.heap.size w p c l) (hbv : NatV w.heap.size w q e m) (hl : l.length ≤ 1000) (hm : m.length ≤ 1000) (hlt : V32 l < V32 m) (hk : kindOf k = 2) :
    Calls Tryd.prog 13 #[.agg #[.int .i64 k, .slice p l.length c, .slice q m.length e, .int .u64 (x : Int), .int .u32 (d : Int), .int .i64 n, .string s, L]] w (Tells (.bool true) w) := by
  have hk' : (k.tmod 9 + 9).tmod 9 = 2 := hk
  have hkl : -9 < k.tmod 9 := Int.lt_tmod_of_pos k (by omega)
  have hkg : k.tmod 9 < 9 := Int.tmod_lt_of_pos k (by omega)
  go_enter Tryd.func13, Tryd.ntmps13
  obtain ⟨w0, hw0⟩ : ∃ w0, w0 = w.alloc (.cells #[.int .i64 k, .slice p l.length c, .slice q m.length e, .int .u64 (x : Int), .int .u32 (d : Int), .int .i64 n, .string s, L] 30) := ⟨_, rfl⟩
  have hb0 : Below w.heap.size w w0 := by rw [hw0]; exact (Below.refl _ _).alloc (Nat.le_refl _) _
  have hs0 : w0.heap.size = w.heap.size + 1 := by rw [hw0]; simp
  have hA : ∀ wx : World, Below w0.heap.size w0 wx → wx.cell? ⟨w.heap.size, 1, none⟩ = some (.slice p l.length c) := fun wx hb => by
    rw [hb.cell (p := ⟨w.heap.size, 1, none⟩) (by simp; omega), hw0, cell_alloc_at _ _ _ _ _ rfl]; rfl
  have hB : ∀ wx : World, Below w0.heap.size w0 wx → wx.cell? ⟨w.heap.size, 2, none⟩ = some (.slice q m.length e) := fun wx hb => by
    rw [hb.cell (p := ⟨w.heap.size, 2, none⟩) (by simp; omega), hw0, cell_alloc_at _ _ _ _ _ rfl]; rfl
  have HC := Lib.hid (And.intro hA hB)
  have hA0 := hA w0 (Below.refl _ _)
  have hB0 := hB w0 (Below.refl _ _)
  have H := Lib.hid (And.intro hr (And.intro hT hb0))
  have HV := Lib.hid (And.intro ha (And.intro hbv hlt))
  clear ha hbv hlt
  clear hA hB hr hT hb0
  go_wp2_with fail
  rw [← hw0]
  clear hw0
  go_wp2_with fail
  refine (sub_less p q c e l m w0 A (H.out.1.below H.out.2.2) (HV.out.1.next H.out.2.2) (HV.out.2.1.next H.out.2.2) HV.out.2.2).mono ?_
  rintro e1 w1 ⟨b1, rfl, hl1, hb1⟩
  have hA1 := HC.out.1 w1 hb1
  have hB1 := HC.out.2 w1 hb1
  have H1 := Lib.hid (And.intro hl1 (And.intro hb1 (H.out.2.2.trans (hb1.mono H.out.2.2.size))))
  clear hl1 hb1
  go_wp2_with fail
  refine (sub_ref_less p q c e l m w1 (HV.out.1.next H1.out.2.2) (HV.out.2.1.next H1.out.2.2) (by omega) (by omega) HV.out.2.2).mono ?_
  rintro e2 w2 ⟨v, rfl, po, pa, rfl, hwant, hb2⟩
  have H2 := Lib.hid (And.intro hwant (And.intro hb2 (H1.out.2.2.trans (hb2.mono H1.out.2.2.size))))
  clear hwant hb2
  go_wp2_with fail
  have hbA : Below w.heap.size w (w2.alloc (.cells #[.int .i64 (3), .slice po 1 1, .slice pa 1 1] 72)) := H2.out.2.2.alloc H2.out.2.2.size _
  have HA2 := Lib.hid hbA
  clear hbA
  refine (nats_same none none 0 0 [] _ (NatV.nothing _) (NatV.nothing _)).mono ?_
  rintro e3 w3 ⟨rfl, hb3⟩
  obtain ⟨hE0, hE1, hE2⟩ := err_laid hb3
  have hb23 : Below w2.heap.size w2 w3 := ((Below.refl _ _).alloc (Nat.le_refl _) _).trans (hb3.mono (by simp))
  have hb13 : Below w1.heap.size w1 w3 := H2.out.2.1.trans (hb23.mono H2.out.2.1.size)
  have hb03 : Below w.heap.size w w3 := H2.out.2.2.trans (hb23.mono H2.out.2.2.size)
  have HI := Lib.hid (And.intro (Is_chain [(b1, natOp, (0 : Int))] 3 (by omega) po pa 1 1 1 w3 A (H.out.1.below hb03) (H.out.2.1.below hb03) (Tree.lies_below hb13 (t := .fault b1 natOp (0) (.leaf (A 3))) H1.out.1) (H2.out.1.below hb23) rfl) hb03)
  clear hb3 hb23 hb13 hb03
  go_wp2_with fail
  refine HI.out.1.mono ?_
  rintro e4 w4 ⟨rfl, hb4⟩
  have HZ := Lib.hid (HI.out.2.trans (hb4.mono HI.out.2.size))
  clear hb4
  go_wp2_with fail
  go_ret
  exact ⟨rfl, HZ.out⟩
set_option maxRecDepth 100000 in
set_option maxHeartbeats 8000000 in
theorem plays_2_ok (k : Int) (p q : Option Addr) (c e : Nat) (l m : List Nat) (x d : Nat) (n : Int) (s : ByteArray) (L : Value) (w : World) (A : Nat → Addr) (hr : Roots w A) (hT : TypeVar w) (ha : NatV w.heap.size w p c l) (hbv : NatV w.heap.size w q e m) (hl : l.length ≤ 1000) (hm : m.length ≤ 1000) (hlt : V32 m ≤ V32 l) (hk : kindOf k = 2) :
    Calls Tryd.prog 13 #[.agg #[.int .i64 k, .slice p l.length c, .slice q m.length e, .int .u64 (x : Int), .int .u32 (d : Int), .int .i64 n, .string s, L]] w (Tells (.bool true) w) := by
  have hk' : (k.tmod 9 + 9).tmod 9 = 2 := hk
  have hkl : -9 < k.tmod 9 := Int.lt_tmod_of_pos k (by omega)
  have hkg : k.tmod 9 < 9 := Int.tmod_lt_of_pos k (by omega)
  go_enter Tryd.func13, Tryd.ntmps13
  obtain ⟨w0, hw0⟩ : ∃ w0, w0 = w.alloc (.cells #[.int .i64 k, .slice p l.length c, .slice q m.length e, .int .u64 (x : Int), .int .u32 (d : Int), .int .i64 n, .string s, L] 30) := ⟨_, rfl⟩
  have hb0 : Below w.heap.size w w0 := by rw [hw0]; exact (Below.refl _ _).alloc (Nat.le_refl _) _
  have hs0 : w0.heap.size = w.heap.size + 1 := by rw [hw0]; simp
  have hA : ∀ wx : World, Below w0.heap.size w0 wx → wx.cell? ⟨w.heap.size, 1, none⟩ = some (.slice p l.length c) := fun wx hb => by
    rw [hb.cell (p := ⟨w.heap.size, 1, none⟩) (by simp; omega), hw0, cell_alloc_at _ _ _ _ _ rfl]; rfl
  have hB : ∀ wx : World, Below w0.heap.size w0 wx → wx.cell? ⟨w.heap.size, 2, none⟩ = some (.slice q m.length e) := fun wx hb => by
    rw [hb.cell (p := ⟨w.heap.size, 2, none⟩) (by simp; omega), hw0, cell_alloc_at _ _ _ _ _ rfl]; rfl
  have HC := Lib.hid (And.intro hA hB)
  have hA0 := hA w0 (Below.refl _ _)
  have hB0 := hB w0 (Below.refl _ _)
  have H := Lib.hid (And.intro hr (And.intro hT hb0))
  have HV := Lib.hid (And.intro ha (And.intro hbv hlt))
  clear ha hbv hlt
  clear hA hB hr hT hb0
  go_wp2_with fail
  rw [← hw0]
  clear hw0
  go_wp2_with fail
  refine (sub_any p q c e l m w0 (HV.out.1.next H.out.2.2) (HV.out.2.1.next H.out.2.2) HV.out.2.2 (by omega)).mono ?_
  rintro e1 w1 ⟨p1, c1, rfl, ho1, hb1⟩
  have hA1 := HC.out.1 w1 hb1
  have hB1 := HC.out.2 w1 hb1
  have H1 := Lib.hid (And.intro ho1 (And.intro hb1 (H.out.2.2.trans (hb1.mono H.out.2.2.size))))
  clear ho1 hb1
  go_wp2_with fail
  refine (sub_ref p q c e l m w1 (HV.out.1.next H1.out.2.2) (HV.out.2.1.next H1.out.2.2) (by omega) (by omega) HV.out.2.2).mono ?_
  rintro e2 w2 ⟨p2, c2, rfl, ho2, hb2⟩
  rw [show noErr = Value.agg #[.int .i64 0, .slice none 0 0, .slice none 0 0] from rfl]
  have H2 := Lib.hid (And.intro ho2 (And.intro hb2 (H1.out.2.2.trans (hb2.mono H1.out.2.2.size))))
  clear ho2 hb2
  go_wp2_with fail
  have hbA : Below w2.heap.size w2 (w2.alloc (.cells #[.int .i64 0, .slice none 0 0, .slice none 0 0] 72)) := (Below.refl _ _).alloc (Nat.le_refl _) _
  refine (nats_same p1 p2 c1 c2 (D32 (V32 l - V32 m)) _ ((H1.out.1.toV.next H2.out.2.1).next hbA) (H2.out.1.toV.next hbA)).mono ?_
  rintro e3 w3 ⟨rfl, hb3⟩
  obtain ⟨hE0, hE1, hE2⟩ := err_laid hb3
  have hb23 : Below w2.heap.size w2 w3 := hbA.trans (hb3.mono (by simp))
  have HI := Lib.hid (And.intro (Is_none none none 0 0 0 0 w3) (H2.out.2.2.trans (hb23.mono H2.out.2.2.size)))
  clear hb3 hb23 hbA
  go_wp2_with fail
  refine HI.out.1.mono ?_
  rintro e4 w4 ⟨rfl, hb4⟩
  have HZ := Lib.hid (HI.out.2.trans (hb4.mono HI.out.2.size))
  clear hb4
  go_wp2_with fail
  go_ret
  exact ⟨rfl, HZ.out⟩
end Go.Proofs.YthhighljfjeooaaDoor

namespace Go.Proofs.YthhighljfjeooaaDoor
open Go.RowKit Go.Extern.Stop Go.Stop Go.Extern NatM

set_option maxRecDepth 100000 in
set_option maxHeartbeats 8000000 in
theorem plays_4_zero (k : Int) (p : Option Addr) (c : Nat) (l : List Nat) (b : Value) (x : Nat) (n : Int) (s : ByteArray) (L : Value) (w : World) (A : Nat → Addr) (hr : Roots w A) (hT : TypeVar w) (hk : kindOf k = 4) :
    Calls Tryd.prog 13 #[.agg #[.int .i64 k, .slice p l.length c, b, .int .u64 (x : Int), .int .u32 0, .int .i64 n, .string s, L]] w (Tells (.bool true) w) := by
  have hk' : (k.tmod 9 + 9).tmod 9 = 4 := hk
  have hkl : -9 < k.tmod 9 := Int.lt_tmod_of_pos k (by omega)
  have hkg : k.tmod 9 < 9 := Int.tmod_lt_of_pos k (by omega)
  go_enter Tryd.func13, Tryd.ntmps13
  obtain ⟨w0, hw0⟩ : ∃ w0, w0 = w.alloc (.cells #[.int .i64 k, .slice p l.length c, b, .int .u64 (x : Int), .int .u32 0, .int .i64 n, .string s, L] 30) := ⟨_, rfl⟩
  have hb0 : Below w.heap.size w w0 := by rw [hw0]; exact (Below.refl _ _).alloc (Nat.le_refl _) _
  have hs0 : w0.heap.size = w.heap.size + 1 := by rw [hw0]; simp
  have hA : ∀ wx : World, Below w0.heap.size w0 wx → wx.cell? ⟨w.heap.size, 1, none⟩ = some (.slice p l.length c) := fun wx hb => by
    rw [hb.cell (p := ⟨w.heap.size, 1, none⟩) (by simp; omega), hw0, cell_alloc_at _ _ _ _ _ rfl]; rfl
  have hD : ∀ wx : World, Below w0.heap.size w0 wx → wx.cell? ⟨w.heap.size, 4, none⟩ = some (.int .u32 0) := fun wx hb => by
    rw [hb.cell (p := ⟨w.heap.size, 4, none⟩) (by simp; omega), hw0, cell_alloc_at _ _ _ _ _ rfl]; rfl
  have HC := Lib.hid (And.intro hA hD)
  have hA0 := hA w0 (Below.refl _ _)
  have hD0 := hD w0 (Below.refl _ _)
  have H := Lib.hid (And.intro hr (And.intro hT hb0))
  clear hA hD hr hT hb0
  go_wp2_with fail
  rw [← hw0]
  clear hw0
  go_wp2_with fail
  refine (over_zero p l.length c w0 A (H.out.1.below H.out.2.2)).mono ?_
  rintro e1 w1 ⟨b1, rfl, hl1, hb1⟩
  have hA1 := HC.out.1 w1 hb1
  have hD1 := HC.out.2 w1 hb1
  have H1 := Lib.hid (And.intro hl1 (And.intro hb1 (H.out.2.2.trans (hb1.mono H.out.2.2.size))))
  clear hl1 hb1
  go_wp2_with fail
  refine (over_ref_zero p l.length c w1).mono ?_
  rintro e2 w2 ⟨v, rfl, po, pa, rfl, hwant, hb2⟩
  have H2 := Lib.hid (And.intro hwant (And.intro hb2 (H1.out.2.2.trans (hb2.mono H1.out.2.2.size))))
  clear hwant hb2
  go_wp2_with fail
  have hbA : Below w.heap.size w (w2.alloc (.cells #[.int .i64 (3), .slice po 1 1, .slice pa 1 1] 72)) := H2.out.2.2.alloc H2.out.2.2.size _
  have HA2 := Lib.hid hbA
  clear hbA
  refine (nats_same none none 0 0 [] _ (NatV.nothing _) (NatV.nothing _)).mono ?_
  rintro e3 w3 ⟨rfl, hb3⟩
  obtain ⟨hE0, hE1, hE2⟩ := err_laid hb3
  have hb23 : Below w2.heap.size w2 w3 := ((Below.refl _ _).alloc (Nat.le_refl _) _).trans (hb3.mono (by simp))
  have hb13 : Below w1.heap.size w1 w3 := H2.out.2.1.trans (hb23.mono H2.out.2.1.size)
  have hb03 : Below w.heap.size w w3 := H2.out.2.2.trans (hb23.mono H2.out.2.2.size)
  have HI := Lib.hid (And.intro (Is_chain [(b1, natOp, (0 : Int))] 3 (by omega) po pa 1 1 1 w3 A (H.out.1.below hb03) (H.out.2.1.below hb03) (Tree.lies_below hb13 (t := .fault b1 natOp (0) (.leaf (A 3))) H1.out.1) (H2.out.1.below hb23) rfl) hb03)
  clear hb3 hb23 hb13 hb03
  go_wp2_with fail
  refine HI.out.1.mono ?_
  rintro e4 w4 ⟨rfl, hb4⟩
  have HZ := Lib.hid (HI.out.2.trans (hb4.mono HI.out.2.size))
  clear hb4
  go_wp2_with fail
  go_ret
  exact ⟨rfl, HZ.out⟩
set_option maxRecDepth 100000 in
set_option maxHeartbeats 8000000 in
theorem plays_4_ok (k : Int) (p : Option Addr) (c : Nat) (l : List Nat) (b : Value) (x : Nat) (n : Int) (s : ByteArray) (d : Nat) (L : Value) (w : World) (A : Nat → Addr) (hr : Roots w A) (hT : TypeVar w) (ha : NatV w.heap.size w p c l) (hl : l.length ≤ 1000) (hd0 : 0 < d) (hd1 : d < 4294967296) (hk : kindOf k = 4) :
    Calls Tryd.prog 13 #[.agg #[.int .i64 k, .slice p l.length c, b, .int .u64 (x : Int), .int .u32 (d : Int), .int .i64 n, .string s, L]] w (Tells (.bool true) w) := by
  have hk' : (k.tmod 9 + 9).tmod 9 = 4 := hk
  have hkl : -9 < k.tmod 9 := Int.lt_tmod_of_pos k (by omega)
  have hkg : k.tmod 9 < 9 := Int.tmod_lt_of_pos k (by omega)
  go_enter Tryd.func13, Tryd.ntmps13
  obtain ⟨w0, hw0⟩ : ∃ w0, w0 = w.alloc (.cells #[.int .i64 k, .slice p l.length c, b, .int .u64 (x : Int), .int .u32 (d : Int), .int .i64 n, .string s, L] 30) := ⟨_, rfl⟩
  have hb0 : Below w.heap.size w w0 := by rw [hw0]; exact (Below.refl _ _).alloc (Nat.le_refl _) _
  have hs0 : w0.heap.size = w.heap.size + 1 := by rw [hw0]; simp
  have hA : ∀ wx : World, Below w0.heap.size w0 wx → wx.cell? ⟨w.heap.size, 1, none⟩ = some (.slice p l.length c) := fun wx hb => by
    rw [hb.cell (p := ⟨w.heap.size, 1, none⟩) (by simp; omega), hw0, cell_alloc_at _ _ _ _ _ rfl]; rfl
  have hD : ∀ wx : World, Below w0.heap.size w0 wx → wx.cell? ⟨w.heap.size, 4, none⟩ = some (.int .u32 (d : Int)) := fun wx hb => by
    rw [hb.cell (p := ⟨w.heap.size, 4, none⟩) (by simp; omega), hw0, cell_alloc_at _ _ _ _ _ rfl]; rfl
  have HC := Lib.hid (And.intro hA hD)
  have hA0 := hA w0 (Below.refl _ _)
  have hD0 := hD w0 (Below.refl _ _)
  have H := Lib.hid (And.intro hr (And.intro hT hb0))
  have HV := Lib.hid ha
  clear ha
  clear hA hD hr hT hb0
  go_wp2_with fail
  rw [← hw0]
  clear hw0
  go_wp2_with fail
  refine (over_any p c l d w0 (HV.out.next H.out.2.2) (by omega) hd0 hd1).mono ?_
  rintro e1 w1 ⟨p1, c1, rfl, ho1, hb1⟩
  have hA1 := HC.out.1 w1 hb1
  have hD1 := HC.out.2 w1 hb1
  have H1 := Lib.hid (And.intro ho1 (And.intro hb1 (H.out.2.2.trans (hb1.mono H.out.2.2.size))))
  clear ho1 hb1
  go_wp2_with fail
  refine (over_ref p c l d w1 (HV.out.next H1.out.2.2) (by omega) hd0 hd1).mono ?_
  rintro e2 w2 ⟨p2, c2, rfl, ho2, hb2⟩
  rw [show noErr = Value.agg #[.int .i64 0, .slice none 0 0, .slice none 0 0] from rfl]
  have H2 := Lib.hid (And.intro ho2 (And.intro hb2 (H1.out.2.2.trans (hb2.mono H1.out.2.2.size))))
  clear ho2 hb2
  go_wp2_with fail
  have hbA : Below w2.heap.size w2 (w2.alloc (.cells #[.int .i64 0, .slice none 0 0, .slice none 0 0] 72)) := (Below.refl _ _).alloc (Nat.le_refl _) _
  refine (nats_same p1 p2 c1 c2 (D32 (V32 l / d)) _ ((H1.out.1.toV.next H2.out.2.1).next hbA) (H2.out.1.toV.next hbA)).mono ?_
  rintro e3 w3 ⟨rfl, hb3⟩
  obtain ⟨hE0, hE1, hE2⟩ := err_laid hb3
  have hb23 : Below w2.heap.size w2 w3 := hbA.trans (hb3.mono (by simp))
  have HI := Lib.hid (And.intro (Is_none none none 0 0 0 0 w3) (H2.out.2.2.trans (hb23.mono H2.out.2.2.size)))
  clear hb3 hb23 hbA
  have hbb := beq_self_i ((V32 l % d : Nat) : Int)
  go_wp2_with fail
  refine HI.out.1.mono ?_
  rintro e4 w4 ⟨rfl, hb4⟩
  have HZ := Lib.hid (HI.out.2.trans (hb4.mono HI.out.2.size))
  clear hb4
  go_wp2_with fail
  go_ret
  exact ⟨rfl, HZ.out⟩
end Go.Proofs.YthhighljfjeooaaDoor

namespace Go.Proofs.YthhighljfjeooaaDoor
open Go.RowKit Go.Extern.Stop Go.Stop Go.Extern NatM

set_option maxRecDepth 100000 in
set_option maxHeartbeats 8000000 in
theorem plays_5_neg (k : Int) (a b : Value) (x d : Nat) (n : Int) (s : ByteArray) (L : Value) (w : World) (A : Nat → Addr) (hr : Roots w A) (hT : TypeVar w) (hn : n < 0) (hk : kindOf k = 5) :
    Calls Tryd.prog 13 #[.agg #[.int .i64 k, a, b, .int .u64 (x : Int), .int .u32 (d : Int), .int .i64 n, .string s, L]] w (Tells (.bool true) w) := by
  have hk' : (k.tmod 9 + 9).tmod 9 = 5 := hk
  have hkl : -9 < k.tmod 9 := Int.lt_tmod_of_pos k (by omega)
  have hkg : k.tmod 9 < 9 := Int.tmod_lt_of_pos k (by omega)
  go_enter Tryd.func13, Tryd.ntmps13
  obtain ⟨w0, hw0⟩ : ∃ w0, w0 = w.alloc (.cells #[.int .i64 k, a, b, .int .u64 (x : Int), .int .u32 (d : Int), .int .i64 n, .string s, L] 30) := ⟨_, rfl⟩
  have hb0 : Below w.heap.size w w0 := by rw [hw0]; exact (Below.refl _ _).alloc (Nat.le_refl _) _
  have hs0 : w0.heap.size = w.heap.size + 1 := by rw [hw0]; simp
  have hD : ∀ wx : World, Below w0.heap.size w0 wx → wx.cell? ⟨w.heap.size, 4, none⟩ = some (.int .u32 (d : Int)) := fun wx hb => by
    rw [hb.cell (p := ⟨w.heap.size, 4, none⟩) (by simp; omega), hw0, cell_alloc_at _ _ _ _ _ rfl]; rfl
  have hN : ∀ wx : World, Below w0.heap.size w0 wx → wx.cell? ⟨w.heap.size, 5, none⟩ = some (.int .i64 n) := fun wx hb => by
    rw [hb.cell (p := ⟨w.heap.size, 5, none⟩) (by simp; omega), hw0, cell_alloc_at _ _ _ _ _ rfl]; rfl
  have HC := Lib.hid (And.intro hD hN)
  have hD0 := hD w0 (Below.refl _ _)
  have hN0 := hN w0 (Below.refl _ _)
  have H := Lib.hid (And.intro hr (And.intro hT hb0))
  clear hD hN hr hT hb0
  go_wp2_with fail
  rw [← hw0]
  clear hw0
  go_wp2_with fail
  refine (pow_neg (d : Int) n hn w0 A (H.out.1.below H.out.2.2)).mono ?_
  rintro e1 w1 ⟨b1, rfl, hl1, hb1⟩
  have hD1 := HC.out.1 w1 hb1
  have hN1 := HC.out.2 w1 hb1
  have H1 := Lib.hid (And.intro hl1 (And.intro hb1 (H.out.2.2.trans (hb1.mono H.out.2.2.size))))
  clear hl1 hb1
  go_wp2_with fail
  refine (pow_ref_neg (d : Int) n w1 hn).mono ?_
  rintro e2 w2 ⟨v, rfl, po, pa, rfl, hwant, hb2⟩
  have H2 := Lib.hid (And.intro hwant (And.intro hb2 (H1.out.2.2.trans (hb2.mono H1.out.2.2.size))))
  clear hwant hb2
  go_wp2_with fail
  have hbA : Below w.heap.size w (w2.alloc (.cells #[.int .i64 (3), .slice po 1 1, .slice pa 1 1] 72)) := H2.out.2.2.alloc H2.out.2.2.size _
  have HA2 := Lib.hid hbA
  clear hbA
  refine (nats_same none none 0 0 [] _ (NatV.nothing _) (NatV.nothing _)).mono ?_
  rintro e3 w3 ⟨rfl, hb3⟩
  obtain ⟨hE0, hE1, hE2⟩ := err_laid hb3
  have hb23 : Below w2.heap.size w2 w3 := ((Below.refl _ _).alloc (Nat.le_refl _) _).trans (hb3.mono (by simp))
  have hb13 : Below w1.heap.size w1 w3 := H2.out.2.1.trans (hb23.mono H2.out.2.1.size)
  have hb03 : Below w.heap.size w w3 := H2.out.2.2.trans (hb23.mono H2.out.2.2.size)
  have HI := Lib.hid (And.intro (Is_chain [(b1, natOp, (0 : Int))] 3 (by omega) po pa 1 1 1 w3 A (H.out.1.below hb03) (H.out.2.1.below hb03) (Tree.lies_below hb13 (t := .fault b1 natOp (0) (.leaf (A 3))) H1.out.1) (H2.out.1.below hb23) rfl) hb03)
  clear hb3 hb23 hb13 hb03
  go_wp2_with fail
  refine HI.out.1.mono ?_
  rintro e4 w4 ⟨rfl, hb4⟩
  have HZ := Lib.hid (HI.out.2.trans (hb4.mono HI.out.2.size))
  clear hb4
  go_wp2_with fail
  go_ret
  exact ⟨rfl, HZ.out⟩
set_option maxRecDepth 100000 in
set_option maxHeartbeats 8000000 in
theorem plays_5_big (k : Int) (a b : Value) (x d : Nat) (n : Int) (s : ByteArray) (L : Value) (w : World) (A : Nat → Addr) (hr : Roots w A) (hT : TypeVar w) (hn : 1024 < n) (hk : kindOf k = 5) :
    Calls Tryd.prog 13 #[.agg #[.int .i64 k, a, b, .int .u64 (x : Int), .int .u32 (d : Int), .int .i64 n, .string s, L]] w (Tells (.bool true) w) := by
  have hk' : (k.tmod 9 + 9).tmod 9 = 5 := hk
  have hkl : -9 < k.tmod 9 := Int.lt_tmod_of_pos k (by omega)
  have hkg : k.tmod 9 < 9 := Int.tmod_lt_of_pos k (by omega)
  go_enter Tryd.func13, Tryd.ntmps13
  obtain ⟨w0, hw0⟩ : ∃ w0, w0 = w.alloc (.cells #[.int .i64 k, a, b, .int .u64 (x : Int), .int .u32 (d : Int), .int .i64 n, .string s, L] 30) := ⟨_, rfl⟩
  have hb0 : Below w.heap.size w w0 := by rw [hw0]; exact (Below.refl _ _).alloc (Nat.le_refl _) _
  have hs0 : w0.heap.size = w.heap.size + 1 := by rw [hw0]; simp
  have hD : ∀ wx : World, Below w0.heap.size w0 wx → wx.cell? ⟨w.heap.size, 4, none⟩ = some (.int .u32 (d : Int)) := fun wx hb => by
    rw [hb.cell (p := ⟨w.heap.size, 4, none⟩) (by simp; omega), hw0, cell_alloc_at _ _ _ _ _ rfl]; rfl
  have hN : ∀ wx : World, Below w0.heap.size w0 wx → wx.cell? ⟨w.heap.size, 5, none⟩ = some (.int .i64 n) := fun wx hb => by
    rw [hb.cell (p := ⟨w.heap.size, 5, none⟩) (by simp; omega), hw0, cell_alloc_at _ _ _ _ _ rfl]; rfl
  have HC := Lib.hid (And.intro hD hN)
  have hD0 := hD w0 (Below.refl _ _)
  have hN0 := hN w0 (Below.refl _ _)
  have H := Lib.hid (And.intro hr (And.intro hT hb0))
  clear hD hN hr hT hb0
  go_wp2_with fail
  rw [← hw0]
  clear hw0
  go_wp2_with fail
  refine (pow_big (d : Int) n hn w0 A (H.out.1.below H.out.2.2)).mono ?_
  rintro e1 w1 ⟨b1, rfl, hl1, hb1⟩
  have hD1 := HC.out.1 w1 hb1
  have hN1 := HC.out.2 w1 hb1
  have H1 := Lib.hid (And.intro hl1 (And.intro hb1 (H.out.2.2.trans (hb1.mono H.out.2.2.size))))
  clear hl1 hb1
  go_wp2_with fail
  refine (pow_ref_big (d : Int) n w1 hn (by omega)).mono ?_
  rintro e2 w2 ⟨v, rfl, po, pa, rfl, hwant, hb2⟩
  have H2 := Lib.hid (And.intro hwant (And.intro hb2 (H1.out.2.2.trans (hb2.mono H1.out.2.2.size))))
  clear hwant hb2
  go_wp2_with fail
  have hbA : Below w.heap.size w (w2.alloc (.cells #[.int .i64 (4), .slice po 1 1, .slice pa 1 1] 72)) := H2.out.2.2.alloc H2.out.2.2.size _
  have HA2 := Lib.hid hbA
  clear hbA
  refine (nats_same none none 0 0 [] _ (NatV.nothing _) (NatV.nothing _)).mono ?_
  rintro e3 w3 ⟨rfl, hb3⟩
  obtain ⟨hE0, hE1, hE2⟩ := err_laid hb3
  have hb23 : Below w2.heap.size w2 w3 := ((Below.refl _ _).alloc (Nat.le_refl _) _).trans (hb3.mono (by simp))
  have hb13 : Below w1.heap.size w1 w3 := H2.out.2.1.trans (hb23.mono H2.out.2.1.size)
  have hb03 : Below w.heap.size w w3 := H2.out.2.2.trans (hb23.mono H2.out.2.2.size)
  have HI := Lib.hid (And.intro (Is_chain [(b1, natOp, (0 : Int))] 4 (by omega) po pa 1 1 1 w3 A (H.out.1.below hb03) (H.out.2.1.below hb03) (Tree.lies_below hb13 (t := .fault b1 natOp (0) (.leaf (A 4))) H1.out.1) (H2.out.1.below hb23) rfl) hb03)
  clear hb3 hb23 hb13 hb03
  go_wp2_with fail
  refine HI.out.1.mono ?_
  rintro e4 w4 ⟨rfl, hb4⟩
  have HZ := Lib.hid (HI.out.2.trans (hb4.mono HI.out.2.size))
  clear hb4
  go_wp2_with fail
  go_ret
  exact ⟨rfl, HZ.out⟩
set_option maxRecDepth 100000 in
set_option maxHeartbeats 8000000 in
theorem plays_5_ok (k : Int) (a b : Value) (x d n : Nat) (s : ByteArray) (L : Value) (w : World) (A : Nat → Addr) (hr : Roots w A) (hT : TypeVar w) (hd1 : d < 4294967296) (hn : n ≤ 1024) (hk : kindOf k = 5) :
    Calls Tryd.prog 13 #[.agg #[.int .i64 k, a, b, .int .u64 (x : Int), .int .u32 (d : Int), .int .i64 (n : Int), .string s, L]] w (Tells (.bool true) w) := by
  have hk' : (k.tmod 9 + 9).tmod 9 = 5 := hk
  have hkl : -9 < k.tmod 9 := Int.lt_tmod_of_pos k (by omega)
  have hkg : k.tmod 9 < 9 := Int.tmod_lt_of_pos k (by omega)
  go_enter Tryd.func13, Tryd.ntmps13
  obtain ⟨w0, hw0⟩ : ∃ w0, w0 = w.alloc (.cells #[.int .i64 k, a, b, .int .u64 (x : Int), .int .u32 (d : Int), .int .i64 (n : Int), .string s, L] 30) := ⟨_, rfl⟩
  have hb0 : Below w.heap.size w w0 := by rw [hw0]; exact (Below.refl _ _).alloc (Nat.le_refl _) _
  have hs0 : w0.heap.size = w.heap.size + 1 := by rw [hw0]; simp
  have hD : ∀ wx : World, Below w0.heap.size w0 wx → wx.cell? ⟨w.heap.size, 4, none⟩ = some (.int .u32 (d : Int)) := fun wx hb => by
    rw [hb.cell (p := ⟨w.heap.size, 4, none⟩) (by simp; omega), hw0, cell_alloc_at _ _ _ _ _ rfl]; rfl
  have hN : ∀ wx : World, Below w0.heap.size w0 wx → wx.cell? ⟨w.heap.size, 5, none⟩ = some (.int .i64 (n : Int)) := fun wx hb => by
    rw [hb.cell (p := ⟨w.heap.size, 5, none⟩) (by simp; omega), hw0, cell_alloc_at _ _ _ _ _ rfl]; rfl
  have HC := Lib.hid (And.intro hD hN)
  have hD0 := hD w0 (Below.refl _ _)
  have hN0 := hN w0 (Below.refl _ _)
  have H := Lib.hid (And.intro hr (And.intro hT hb0))
  clear hD hN hr hT hb0
  go_wp2_with fail
  rw [← hw0]
  clear hw0
  go_wp2_with fail
  refine (pow_any d n hd1 hn w0).mono ?_
  rintro e1 w1 ⟨p1, c1, rfl, ho1, hb1⟩
  have hD1 := HC.out.1 w1 hb1
  have hN1 := HC.out.2 w1 hb1
  have H1 := Lib.hid (And.intro ho1 (And.intro hb1 (H.out.2.2.trans (hb1.mono H.out.2.2.size))))
  clear ho1 hb1
  go_wp2_with fail
  refine (pow_ref d n hd1 hn w1).mono ?_
  rintro e2 w2 ⟨p2, c2, rfl, ho2, hb2⟩
  rw [show noErr = Value.agg #[.int .i64 0, .slice none 0 0, .slice none 0 0] from rfl]
  have H2 := Lib.hid (And.intro ho2 (And.intro hb2 (H1.out.2.2.trans (hb2.mono H1.out.2.2.size))))
  clear ho2 hb2
  go_wp2_with fail
  have hbA : Below w2.heap.size w2 (w2.alloc (.cells #[.int .i64 0, .slice none 0 0, .slice none 0 0] 72)) := (Below.refl _ _).alloc (Nat.le_refl _) _
  refine (nats_same p1 p2 c1 c2 (D32 (d ^ n)) _ ((H1.out.1.toV.next H2.out.2.1).next hbA) (H2.out.1.toV.next hbA)).mono ?_
  rintro e3 w3 ⟨rfl, hb3⟩
  obtain ⟨hE0, hE1, hE2⟩ := err_laid hb3
  have hb23 : Below w2.heap.size w2 w3 := hbA.trans (hb3.mono (by simp))
  have HI := Lib.hid (And.intro (Is_none none none 0 0 0 0 w3) (H2.out.2.2.trans (hb23.mono H2.out.2.2.size)))
  clear hb3 hb23 hbA
  go_wp2_with fail
  refine HI.out.1.mono ?_
  rintro e4 w4 ⟨rfl, hb4⟩
  have HZ := Lib.hid (HI.out.2.trans (hb4.mono HI.out.2.size))
  clear hb4
  go_wp2_with fail
  go_ret
  exact ⟨rfl, HZ.out⟩
end Go.Proofs.YthhighljfjeooaaDoor

namespace Go.Proofs.YthhighljfjeooaaDoor
open Go.RowKit Go.Extern.Stop Go.Stop Go.Extern NatM

set_option maxRecDepth 100000 in
set_option maxHeartbeats 8000000 in
theorem plays_7_bad (k : Int) (a b : Value) (x d : Nat) (n : Int) (s : ByteArray) (i j : Nat) (L : Value) (w : World) (A : Nat → Addr) (hr : Roots w A) (hT : TypeVar w) (hp : parseBad (bsOf s) = some (i, j)) (hj : 1 ≤ j ∧ j ≤ 11) (hk : kindOf k = 7) :
    Calls Tryd.prog 13 #[.agg #[.int .i64 k, a, b, .int .u64 (x : Int), .int .u32 (d : Int), .int .i64 n, .string s, L]] w (Tells (.bool true) w) := by
  have hk' : (k.tmod 9 + 9).tmod 9 = 7 := hk
  have hkl : -9 < k.tmod 9 := Int.lt_tmod_of_pos k (by omega)
  have hkg : k.tmod 9 < 9 := Int.tmod_lt_of_pos k (by omega)
  go_enter Tryd.func13, Tryd.ntmps13
  obtain ⟨w0, hw0⟩ : ∃ w0, w0 = w.alloc (.cells #[.int .i64 k, a, b, .int .u64 (x : Int), .int .u32 (d : Int), .int .i64 n, .string s, L] 30) := ⟨_, rfl⟩
  have hb0 : Below w.heap.size w w0 := by rw [hw0]; exact (Below.refl _ _).alloc (Nat.le_refl _) _
  have hs0 : w0.heap.size = w.heap.size + 1 := by rw [hw0]; simp
  have hS : ∀ wx : World, Below w0.heap.size w0 wx → wx.cell? ⟨w.heap.size, 6, none⟩ = some (.string s) := fun wx hb => by
    rw [hb.cell (p := ⟨w.heap.size, 6, none⟩) (by simp; omega), hw0, cell_alloc_at _ _ _ _ _ rfl]; rfl
  have HC := Lib.hid hS
  have hS0 := hS w0 (Below.refl _ _)
  have H := Lib.hid (And.intro hr (And.intro hT hb0))
  have HV := Lib.hid hp
  clear hp
  clear hS hr hT hb0
  go_wp2_with fail
  rw [← hw0]
  clear hw0
  go_wp2_with fail
  refine (parse_err s w0 A (H.out.1.below H.out.2.2) i j HV.out).mono ?_
  rintro e1 w1 ⟨b1, rfl, hl1, hb1⟩
  have hS1 := HC.out w1 hb1
  have H1 := Lib.hid (And.intro hl1 (And.intro hb1 (H.out.2.2.trans (hb1.mono H.out.2.2.size))))
  clear hl1 hb1
  go_wp2_with fail
  refine (parse_ref_err s w1 i j HV.out).mono ?_
  rintro e2 w2 ⟨v, rfl, po, pa, rfl, hwant, hb2⟩
  have H2 := Lib.hid (And.intro hwant (And.intro hb2 (H1.out.2.2.trans (hb2.mono H1.out.2.2.size))))
  clear hwant hb2
  go_wp2_with fail
  have hbA : Below w.heap.size w (w2.alloc (.cells #[.int .i64 (j), .slice po 1 1, .slice pa 1 1] 72)) := H2.out.2.2.alloc H2.out.2.2.size _
  have HA2 := Lib.hid hbA
  clear hbA
  refine (nats_same none none 0 0 [] _ (NatV.nothing _) (NatV.nothing _)).mono ?_
  rintro e3 w3 ⟨rfl, hb3⟩
  obtain ⟨hE0, hE1, hE2⟩ := err_laid hb3
  have hb23 : Below w2.heap.size w2 w3 := ((Below.refl _ _).alloc (Nat.le_refl _) _).trans (hb3.mono (by simp))
  have hb13 : Below w1.heap.size w1 w3 := H2.out.2.1.trans (hb23.mono H2.out.2.1.size)
  have hb03 : Below w.heap.size w w3 := H2.out.2.2.trans (hb23.mono H2.out.2.2.size)
  have HI := Lib.hid (And.intro (Is_chain [(b1, natOp, (i : Int))] j (by exact hj) po pa 1 1 1 w3 A (H.out.1.below hb03) (H.out.2.1.below hb03) (Tree.lies_below hb13 (t := .fault b1 natOp (i) (.leaf (A j))) H1.out.1) (H2.out.1.below hb23) rfl) hb03)
  clear hb3 hb23 hb13 hb03
  go_wp2_with fail
  refine HI.out.1.mono ?_
  rintro e4 w4 ⟨rfl, hb4⟩
  have HZ := Lib.hid (HI.out.2.trans (hb4.mono HI.out.2.size))
  clear hb4
  go_wp2_with fail
  go_ret
  exact ⟨rfl, HZ.out⟩
set_option maxRecDepth 100000 in
set_option maxHeartbeats 8000000 in
theorem plays_7_ok (k : Int) (a b : Value) (x d : Nat) (n : Int) (s : ByteArray) (L : Value) (w : World) (A : Nat → Addr) (hr : Roots w A) (hT : TypeVar w) (hp : parseBad (bsOf s) = none) (hk : kindOf k = 7) :
    Calls Tryd.prog 13 #[.agg #[.int .i64 k, a, b, .int .u64 (x : Int), .int .u32 (d : Int), .int .i64 n, .string s, L]] w (Tells (.bool true) w) := by
  have hk' : (k.tmod 9 + 9).tmod 9 = 7 := hk
  have hkl : -9 < k.tmod 9 := Int.lt_tmod_of_pos k (by omega)
  have hkg : k.tmod 9 < 9 := Int.tmod_lt_of_pos k (by omega)
  go_enter Tryd.func13, Tryd.ntmps13
  obtain ⟨w0, hw0⟩ : ∃ w0, w0 = w.alloc (.cells #[.int .i64 k, a, b, .int .u64 (x : Int), .int .u32 (d : Int), .int .i64 n, .string s, L] 30) := ⟨_, rfl⟩
  have hb0 : Below w.heap.size w w0 := by rw [hw0]; exact (Below.refl _ _).alloc (Nat.le_refl _) _
  have hs0 : w0.heap.size = w.heap.size + 1 := by rw [hw0]; simp
  have hS : ∀ wx : World, Below w0.heap.size w0 wx → wx.cell? ⟨w.heap.size, 6, none⟩ = some (.string s) := fun wx hb => by
    rw [hb.cell (p := ⟨w.heap.size, 6, none⟩) (by simp; omega), hw0, cell_alloc_at _ _ _ _ _ rfl]; rfl
  have HC := Lib.hid hS
  have hS0 := hS w0 (Below.refl _ _)
  have H := Lib.hid (And.intro hr (And.intro hT hb0))
  have HV := Lib.hid hp
  clear hp
  clear hS hr hT hb0
  go_wp2_with fail
  rw [← hw0]
  clear hw0
  go_wp2_with fail
  refine (parse_num s w0 HV.out).mono ?_
  rintro e1 w1 ⟨p1, c1, rfl, ho1, hb1⟩
  have hS1 := HC.out w1 hb1
  have H1 := Lib.hid (And.intro ho1 (And.intro hb1 (H.out.2.2.trans (hb1.mono H.out.2.2.size))))
  clear ho1 hb1
  go_wp2_with fail
  refine (parse_ref_num s w1 HV.out).mono ?_
  rintro e2 w2 ⟨p2, c2, rfl, ho2, hb2⟩
  rw [show noErr = Value.agg #[.int .i64 0, .slice none 0 0, .slice none 0 0] from rfl]
  have H2 := Lib.hid (And.intro ho2 (And.intro hb2 (H1.out.2.2.trans (hb2.mono H1.out.2.2.size))))
  clear ho2 hb2
  go_wp2_with fail
  have hbA : Below w2.heap.size w2 (w2.alloc (.cells #[.int .i64 0, .slice none 0 0, .slice none 0 0] 72)) := (Below.refl _ _).alloc (Nat.le_refl _) _
  refine (nats_same p1 p2 c1 c2 (D32 (numOf (bsOf s))) _ ((H1.out.1.toV.next H2.out.2.1).next hbA) (H2.out.1.toV.next hbA)).mono ?_
  rintro e3 w3 ⟨rfl, hb3⟩
  obtain ⟨hE0, hE1, hE2⟩ := err_laid hb3
  have hb23 : Below w2.heap.size w2 w3 := hbA.trans (hb3.mono (by simp))
  have HI := Lib.hid (And.intro (Is_none none none 0 0 0 0 w3) (H2.out.2.2.trans (hb23.mono H2.out.2.2.size)))
  clear hb3 hb23 hbA
  go_wp2_with fail
  refine HI.out.1.mono ?_
  rintro e4 w4 ⟨rfl, hb4⟩
  have HZ := Lib.hid (HI.out.2.trans (hb4.mono HI.out.2.size))
  clear hb4
  go_wp2_with fail
  go_ret
  exact ⟨rfl, HZ.out⟩
end Go.Proofs.YthhighljfjeooaaDoor
