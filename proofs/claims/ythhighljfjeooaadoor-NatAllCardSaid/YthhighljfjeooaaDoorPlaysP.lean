/- plays of edenlaw02, kind by kind.
plays of edenlaw02: kind 1.
plays of edenlaw02: kind 3.
plays of edenlaw02: kind 6.
plays of edenlaw02: kind 8. -/
import Derived.Test.YthhighljfjeooaaDoorRefM
import Derived.Test.YthhighljfjeooaaDoorRefL
import Derived.Test.YthhighljfjeooaaDoorRefN
import Derived.Test.YthhighljfjeooaaDoorRefE
import Derived.Test.YthhighljfjeooaaDoorRefH
import Derived.Deep.RegionHeld3
import Derived.Deep.DrawnRows
namespace Go.Proofs.YthhighljfjeooaaDoor
open Go.RowKit NatM

/-- which of the nine kinds -/
def kindOf (k : Int) : Int := (k.tmod 9 + 9).tmod 9
def opV (k : Int) (a b : Value) (x d : Nat) (n : Int) (s : ByteArray) (L : Value) : Value := .agg #[.int .i64 k, a, b, .int .u64 (x : Int), .int .u32 (d : Int), .int .i64 n, .string s, L]

set_option maxRecDepth 100000 in
set_option maxHeartbeats 4000000 in
theorem plays_0 (k : Int) (a b : Value) (x d : Nat) (n : Int) (s : ByteArray) (L : Value) (w : World) (hx : x < 18446744073709551616) (hk : kindOf k = 0) :
    Calls Tryd.prog 13 #[.agg #[.int .i64 k, a, b, .int .u64 (x : Int), .int .u32 (d : Int), .int .i64 n, .string s, L]] w (Tells (.bool true) w) := by
  have hk' : (k.tmod 9 + 9).tmod 9 = 0 := hk
  have hkl : -9 < k.tmod 9 := Int.lt_tmod_of_pos k (by omega)
  have hkg : k.tmod 9 < 9 := Int.tmod_lt_of_pos k (by omega)
  go_enter Tryd.func13, Tryd.ntmps13
  obtain ⟨w0, hw0⟩ : ∃ w0, w0 = w.alloc (.cells #[.int .i64 k, a, b, .int .u64 (x : Int), .int .u32 (d : Int), .int .i64 n, .string s, L] 30) := ⟨_, rfl⟩
  have hb0 : Below w.heap.size w w0 := by rw [hw0]; exact (Below.refl _ _).alloc (Nat.le_refl _) _
  have hs0 : w0.heap.size = w.heap.size + 1 := by rw [hw0]; simp
  have hc0 : ∀ wx : World, Below w0.heap.size w0 wx → wx.cell? ⟨w.heap.size, 3, none⟩ = some (.int .u64 (x : Int)) := fun wx hb => by
    rw [hb.cell (p := ⟨w.heap.size, 3, none⟩) (by simp; omega), hw0, cell_alloc_at _ _ _ _ _ rfl]; rfl
  have hcc := hc0 w0 (Below.refl _ _)
  go_wp2_with fail
  rw [← hw0]
  have H0 := Lib.hid hb0
  clear hw0 hb0
  have hfrom : ∀ wx : World, Below w0.heap.size w0 wx → Calls Tryd.prog 36 #[.int .u64 (x : Int)] wx (NatPost wx x) := fun wx _ => from_any x wx hx
  have hfrom2 : ∀ wx : World, Below w0.heap.size w0 wx → Calls Tryd.prog 51 #[.int .u64 (x : Int)] wx (NatPost wx x) := fun wx _ => from_ref x wx hx
  have hd0 : Below w0.heap.size w0 w0.drew := (Below.refl _ _).drew
  have hdc : w0.drew.cell? ⟨w.heap.size, 3, none⟩ = some (.int .u64 (x : Int)) := hc0 _ hd0
  go_region_with (first
    | (go_at_call 36; refine (hfrom _ (by first | assumption | exact Below.refl _ _)).mono ?_; rintro e w1 ⟨p1, c1, rfl, ho1, hb1⟩; have hB1 : Below w0.heap.size w0 w1 := (by first | exact hb1 | exact hd0.trans (hb1.mono hd0.size)); have hcw1 := hc0 w1 hB1)
    | (go_at_call 51; refine (hfrom2 _ (by first | assumption)).mono ?_; rintro e w2 ⟨p2, c2, rfl, ho2, hb2⟩; have hB2 : Below w0.heap.size w0 w2 := hB1.trans (hb2.mono hB1.size))
    | (go_at_call 48; refine (nats_same p1 p2 c1 c2 (D32 x) _ (ho1.next hb2).toV ho2.toV).mono ?_; rintro e w3 ⟨rfl, hb3⟩; have hB3 : Below w0.heap.size w0 w3 := hB2.trans (hb3.mono hB2.size)))
  all_goals
    have HZ := Lib.hid (H0.out.trans (hB3.mono (by omega)))
    clear hfrom hfrom2 hc0 hb1 hb2 hb3 hB1 hB2 hB3 ho1 ho2
    go_wp2_with fail
    go_ret
    exact ⟨rfl, HZ.out⟩
end Go.Proofs.YthhighljfjeooaaDoor

namespace Go.Proofs.YthhighljfjeooaaDoor
open Go.RowKit NatM
attribute [local go_sem ↓] Go.wp_at_zero Go.wp_at_succ


set_option maxRecDepth 100000 in
set_option maxHeartbeats 8000000 in
theorem plays_1 (k : Int) (p q : Option Addr) (c e : Nat) (l m : List Nat) (x d : Nat) (n : Int) (s : ByteArray) (L : Value) (w : World) (ha : NatV w.heap.size w p c l) (hbv : NatV w.heap.size w q e m) (hl : l.length ≤ 1000) (hm : m.length ≤ 1000) (hk : kindOf k = 1) :
    Calls Tryd.prog 13 #[.agg #[.int .i64 k, .slice p l.length c, .slice q m.length e, .int .u64 (x : Int), .int .u32 (d : Int), .int .i64 n, .string s, L]] w (Tells (.bool true) w) := by
  have hk' : (k.tmod 9 + 9).tmod 9 = 1 := hk
  have hkl : -9 < k.tmod 9 := Int.lt_tmod_of_pos k (by omega)
  have hkg : k.tmod 9 < 9 := Int.tmod_lt_of_pos k (by omega)
  go_enter Tryd.func13, Tryd.ntmps13
  obtain ⟨w0, hw0⟩ : ∃ w0, w0 = w.alloc (.cells #[.int .i64 k, .slice p l.length c, .slice q m.length e, .int .u64 (x : Int), .int .u32 (d : Int), .int .i64 n, .string s, L] 30) := ⟨_, rfl⟩
  have hb0 : Below w.heap.size w w0 := by rw [hw0]; exact (Below.refl _ _).alloc (Nat.le_refl _) _
  have hs0 : w0.heap.size = w.heap.size + 1 := by rw [hw0]; simp
  have hA : ∀ wx : World, Below w0.heap.size w0 wx → wx.cell? ⟨w.heap.size, 1, none⟩ = some (.slice p l.length c) := fun wx hb => by
    rw [hb.cell (p := ⟨w.heap.size, 1, none⟩) (by simp; omega), hw0, cell_alloc_at _ _ _ _ _ rfl]; rfl
  have hB : ∀ wx : World, Below w0.heap.size w0 wx → wx.cell? ⟨w.heap.size, 2, none⟩ = some (.slice q m.length e) := fun wx hb => by
    rw [hb.cell (p := ⟨w.heap.size, 2, none⟩) (by simp; omega), hw0, cell_alloc_at _ _ _ _ _ rfl]; rfl
  have hA0 := hA w0 (Below.refl _ _)
  have hB0 := hB w0 (Below.refl _ _)
  go_wp2_with fail
  rw [← hw0]
  have H0 := Lib.hid hb0
  clear hw0
  have hd0 : Below w0.heap.size w0 w0.drew := (Below.refl _ _).drew
  have hAd := hA _ hd0
  have hBd := hB _ hd0
  have hf1 : ∀ wx : World, Below w0.heap.size w0 wx → Calls Tryd.prog 35 #[.slice p l.length c, .slice q m.length e] wx (NatPost wx (V32 l + V32 m)) := fun wx hb => add_any p q c e l m wx ((ha.next hb0).next hb) ((hbv.next hb0).next hb) (by omega) (by omega)
  have hf2 : ∀ wx : World, Below w0.heap.size w0 wx → Calls Tryd.prog 52 #[.slice p l.length c, .slice q m.length e] wx (NatPost wx (V32 l + V32 m)) := fun wx hb => add_ref p q c e l m wx ((ha.next hb0).next hb) ((hbv.next hb0).next hb) (by omega) (by omega)
  clear hb0 ha hbv
  obtain ⟨N, hN⟩ : ∃ N, V32 l + V32 m = N := ⟨_, rfl⟩
  simp only [hN] at hf1 hf2
  clear hN
  go_region_held3 (fun w' => w'.cell? ⟨w.heap.size, 1, none⟩ = some (.slice p l.length c) ∧ w'.cell? ⟨w.heap.size, 2, none⟩ = some (.slice q m.length e)) (first | exact ⟨hA _ (by assumption), hB _ (by assumption)⟩ | exact ⟨hA _ (Below.refl _ _), hB _ (Below.refl _ _)⟩ | exact ⟨hA _ hd0, hB _ hd0⟩ | go_keep) (first
    | (go_at_call 35; refine (hf1 _ (by first | assumption | exact Below.refl _ _)).mono ?_; rintro e w1 ⟨p1, c1, rfl, ho1, hb1⟩; have hB1 : Below w0.heap.size w0 w1 := (by first | exact hb1 | exact hd0.trans (hb1.mono hd0.size)))
    | (go_at_call 52; refine (hf2 _ (by first | assumption)).mono ?_; rintro e w2 ⟨p2, c2, rfl, ho2, hb2⟩; have hB2 : Below w0.heap.size w0 w2 := hB1.trans (hb2.mono hB1.size))
    | (go_at_call 48; refine (nats_same p1 p2 c1 c2 (D32 N) _ (ho1.next hb2).toV ho2.toV).mono ?_; rintro e w3 ⟨rfl, hb3⟩; have hB3 : Below w0.heap.size w0 w3 := hB2.trans (hb3.mono hB2.size)))
  all_goals
    have HZ := Lib.hid (H0.out.trans (hB3.mono (by omega)))
    clear hf1 hf2 hA hB hb1 hb2 hb3 hB1 hB2 hB3 ho1 ho2
    go_wp2_with fail
    go_ret
    exact ⟨rfl, HZ.out⟩

end Go.Proofs.YthhighljfjeooaaDoor

namespace Go.Proofs.YthhighljfjeooaaDoor
open Go.RowKit NatM
attribute [local go_sem ↓] Go.wp_at_zero Go.wp_at_succ


set_option maxRecDepth 100000 in
set_option maxHeartbeats 8000000 in
theorem plays_3 (k : Int) (p q : Option Addr) (c e : Nat) (l m : List Nat) (x d : Nat) (n : Int) (s : ByteArray) (L : Value) (w : World) (ha : NatV w.heap.size w p c l) (hbv : NatV w.heap.size w q e m) (hl : l.length ≤ 1000) (hm : m.length ≤ 1000) (hk : kindOf k = 3) :
    Calls Tryd.prog 13 #[.agg #[.int .i64 k, .slice p l.length c, .slice q m.length e, .int .u64 (x : Int), .int .u32 (d : Int), .int .i64 n, .string s, L]] w (Tells (.bool true) w) := by
  have hk' : (k.tmod 9 + 9).tmod 9 = 3 := hk
  have hkl : -9 < k.tmod 9 := Int.lt_tmod_of_pos k (by omega)
  have hkg : k.tmod 9 < 9 := Int.tmod_lt_of_pos k (by omega)
  go_enter Tryd.func13, Tryd.ntmps13
  obtain ⟨w0, hw0⟩ : ∃ w0, w0 = w.alloc (.cells #[.int .i64 k, .slice p l.length c, .slice q m.length e, .int .u64 (x : Int), .int .u32 (d : Int), .int .i64 n, .string s, L] 30) := ⟨_, rfl⟩
  have hb0 : Below w.heap.size w w0 := by rw [hw0]; exact (Below.refl _ _).alloc (Nat.le_refl _) _
  have hs0 : w0.heap.size = w.heap.size + 1 := by rw [hw0]; simp
  have hA : ∀ wx : World, Below w0.heap.size w0 wx → wx.cell? ⟨w.heap.size, 1, none⟩ = some (.slice p l.length c) := fun wx hb => by
    rw [hb.cell (p := ⟨w.heap.size, 1, none⟩) (by simp; omega), hw0, cell_alloc_at _ _ _ _ _ rfl]; rfl
  have hB : ∀ wx : World, Below w0.heap.size w0 wx → wx.cell? ⟨w.heap.size, 2, none⟩ = some (.slice q m.length e) := fun wx hb => by
    rw [hb.cell (p := ⟨w.heap.size, 2, none⟩) (by simp; omega), hw0, cell_alloc_at _ _ _ _ _ rfl]; rfl
  have hA0 := hA w0 (Below.refl _ _)
  have hB0 := hB w0 (Below.refl _ _)
  go_wp2_with fail
  rw [← hw0]
  have H0 := Lib.hid hb0
  clear hw0
  have hd0 : Below w0.heap.size w0 w0.drew := (Below.refl _ _).drew
  have hAd := hA _ hd0
  have hBd := hB _ hd0
  have hf1 : ∀ wx : World, Below w0.heap.size w0 wx → Calls Tryd.prog 50 #[.slice p l.length c, .slice q m.length e] wx (NatPost wx (V32 l * V32 m)) := fun wx hb => mul_any p q c e l m wx ((ha.next hb0).next hb) ((hbv.next hb0).next hb) (by omega) (by omega)
  have hf2 : ∀ wx : World, Below w0.heap.size w0 wx → Calls Tryd.prog 56 #[.slice p l.length c, .slice q m.length e] wx (NatPost wx (V32 l * V32 m)) := fun wx hb => mul_ref p q c e l m wx ((ha.next hb0).next hb) ((hbv.next hb0).next hb) (by omega) (by omega)
  clear hb0 ha hbv
  obtain ⟨N, hN⟩ : ∃ N, V32 l * V32 m = N := ⟨_, rfl⟩
  simp only [hN] at hf1 hf2
  clear hN
  go_region_held3 (fun w' => w'.cell? ⟨w.heap.size, 1, none⟩ = some (.slice p l.length c) ∧ w'.cell? ⟨w.heap.size, 2, none⟩ = some (.slice q m.length e)) (first | exact ⟨hA _ (by assumption), hB _ (by assumption)⟩ | exact ⟨hA _ (Below.refl _ _), hB _ (Below.refl _ _)⟩ | exact ⟨hA _ hd0, hB _ hd0⟩ | go_keep) (first
    | (go_at_call 50; refine (hf1 _ (by first | assumption | exact Below.refl _ _)).mono ?_; rintro e w1 ⟨p1, c1, rfl, ho1, hb1⟩; have hB1 : Below w0.heap.size w0 w1 := (by first | exact hb1 | exact hd0.trans (hb1.mono hd0.size)))
    | (go_at_call 56; refine (hf2 _ (by first | assumption)).mono ?_; rintro e w2 ⟨p2, c2, rfl, ho2, hb2⟩; have hB2 : Below w0.heap.size w0 w2 := hB1.trans (hb2.mono hB1.size))
    | (go_at_call 48; refine (nats_same p1 p2 c1 c2 (D32 N) _ (ho1.next hb2).toV ho2.toV).mono ?_; rintro e w3 ⟨rfl, hb3⟩; have hB3 : Below w0.heap.size w0 w3 := hB2.trans (hb3.mono hB2.size)))
  all_goals
    have HZ := Lib.hid (H0.out.trans (hB3.mono (by omega)))
    clear hf1 hf2 hA hB hb1 hb2 hb3 hB1 hB2 hB3 ho1 ho2
    go_wp2_with fail
    go_ret
    exact ⟨rfl, HZ.out⟩

end Go.Proofs.YthhighljfjeooaaDoor

namespace Go.Proofs.YthhighljfjeooaaDoor
open Go.RowKit NatM
attribute [local go_sem ↓] Go.wp_at_zero Go.wp_at_succ

theorem sameS (s : ByteArray) : (s.toList == s.toList) = true := by simp
theorem NatsV.nx {w w' : World} {q : Option Addr} {c : Nat} {L : List Nt} (hb : Below w.heap.size w w') (h : NatsV w.heap.size w q c L) : NatsV w'.heap.size w' q c L := (h.below hb).mono hb.size

set_option maxRecDepth 100000 in
set_option maxHeartbeats 8000000 in
theorem plays_6 (k : Int) (p : Option Addr) (c : Nat) (l : List Nat) (b : Value) (x d : Nat) (n : Int) (s : ByteArray) (L : Value) (w : World) (ha : NatV w.heap.size w p c l) (hl : l.length ≤ 1000) (hk : kindOf k = 6) :
    Calls Tryd.prog 13 #[.agg #[.int .i64 k, .slice p l.length c, b, .int .u64 (x : Int), .int .u32 (d : Int), .int .i64 n, .string s, L]] w (Tells (.bool true) w) := by
  have hk' : (k.tmod 9 + 9).tmod 9 = 6 := hk
  have hkl : -9 < k.tmod 9 := Int.lt_tmod_of_pos k (by omega)
  have hkg : k.tmod 9 < 9 := Int.tmod_lt_of_pos k (by omega)
  go_enter Tryd.func13, Tryd.ntmps13
  obtain ⟨w0, hw0⟩ : ∃ w0, w0 = w.alloc (.cells #[.int .i64 k, .slice p l.length c, b, .int .u64 (x : Int), .int .u32 (d : Int), .int .i64 n, .string s, L] 30) := ⟨_, rfl⟩
  have hb0 : Below w.heap.size w w0 := by rw [hw0]; exact (Below.refl _ _).alloc (Nat.le_refl _) _
  have hs0 : w0.heap.size = w.heap.size + 1 := by rw [hw0]; simp
  have hA : ∀ wx : World, Below w0.heap.size w0 wx → wx.cell? ⟨w.heap.size, 1, none⟩ = some (.slice p l.length c) := fun wx hb => by
    rw [hb.cell (p := ⟨w.heap.size, 1, none⟩) (by simp; omega), hw0, cell_alloc_at _ _ _ _ _ rfl]; rfl
  have hA0 := hA w0 (Below.refl _ _)
  go_wp2_with fail
  rw [← hw0]
  have H0 := Lib.hid hb0
  clear hw0
  have hd0 : Below w0.heap.size w0 w0.drew := (Below.refl _ _).drew
  have hAd := hA _ hd0
  have hf1 : ∀ wx : World, Below w0.heap.size w0 wx → Calls Tryd.prog 49 #[.slice p l.length c] wx (Tells (.string (textOf (V32 l))) wx) := fun wx hb => text_any p c l wx ((ha.next hb0).next hb) (by omega)
  have hf2 : ∀ wx : World, Below w0.heap.size w0 wx → Calls Tryd.prog 60 #[.slice p l.length c] wx (Tells (.string (textOf (V32 l))) wx) := fun wx hb => text_ref p c l wx ((ha.next hb0).next hb) (by omega)
  clear hb0 ha
  obtain ⟨N, hN⟩ : ∃ N, textOf (V32 l) = N := ⟨_, rfl⟩
  simp only [hN] at hf1 hf2
  have hsame := sameS N
  clear hN
  go_region_with (first
    | (go_at_call 49; refine (hf1 _ (by first | assumption | exact Below.refl _ _)).mono ?_; rintro e w1 ⟨rfl, hb1⟩; have hB1 : Below w0.heap.size w0 w1 := (by first | exact hb1 | exact hd0.trans (hb1.mono hd0.size)); have hA1 := hA w1 hB1)
    | (go_at_call 60; refine (hf2 _ (by first | assumption)).mono ?_; rintro e w2 ⟨rfl, hb2⟩; have hB2 : Below w0.heap.size w0 w2 := hB1.trans (hb2.mono hB1.size)))
  all_goals
    have HZ := Lib.hid (H0.out.trans (hB2.mono (by omega)))
    clear hf1 hf2 hA hb1 hb2 hB1 hB2
    go_wp2_with fail
    go_ret
    exact ⟨rfl, HZ.out⟩

end Go.Proofs.YthhighljfjeooaaDoor

namespace Go.Proofs.YthhighljfjeooaaDoor
open Go.RowKit NatM
attribute [local go_sem ↓] Go.wp_at_zero Go.wp_at_succ

set_option maxRecDepth 100000 in
set_option maxHeartbeats 8000000 in
theorem plays_8 (k : Int) (a b : Value) (q : Option Addr) (cq : Nat) (K : List Nt) (x d : Nat) (n : Int) (s : ByteArray) (w : World) (hL : NatsV w.heap.size w q cq K) (hl : K.length ≤ 100) (hle : ∀ x : Nt, x ∈ K → x.2.2.length ≤ 1000) (hk : kindOf k ≠ 0 ∧ kindOf k ≠ 1 ∧ kindOf k ≠ 2 ∧ kindOf k ≠ 3 ∧ kindOf k ≠ 4 ∧ kindOf k ≠ 5 ∧ kindOf k ≠ 6 ∧ kindOf k ≠ 7) :
    Calls Tryd.prog 13 #[.agg #[.int .i64 k, a, b, .int .u64 (x : Int), .int .u32 (d : Int), .int .i64 n, .string s, .slice q K.length cq]] w (Tells (.bool true) w) := by
  have hk8 : ∃ r, (k.tmod 9 + 9).tmod 9 = r ∧ r ≠ 0 ∧ r ≠ 1 ∧ r ≠ 2 ∧ r ≠ 3 ∧ r ≠ 4 ∧ r ≠ 5 ∧ r ≠ 6 ∧ r ≠ 7 := ⟨_, rfl, hk⟩
  obtain ⟨r, hk', h0, h1, h2, h3, h4, h5, h6, h7⟩ := hk8
  have g0 : (r == 0) = false := by simpa using h0
  have g1 : (r == 1) = false := by simpa using h1
  have g2 : (r == 2) = false := by simpa using h2
  have g3 : (r == 3) = false := by simpa using h3
  have g4 : (r == 4) = false := by simpa using h4
  have g5 : (r == 5) = false := by simpa using h5
  have g6 : (r == 6) = false := by simpa using h6
  have g7 : (r == 7) = false := by simpa using h7
  clear hk h0 h1 h2 h3 h4 h5 h6 h7
  have hkl : -9 < k.tmod 9 := Int.lt_tmod_of_pos k (by omega)
  have hkg : k.tmod 9 < 9 := Int.tmod_lt_of_pos k (by omega)
  go_enter Tryd.func13, Tryd.ntmps13
  obtain ⟨w0, hw0⟩ : ∃ w0, w0 = w.alloc (.cells #[.int .i64 k, a, b, .int .u64 (x : Int), .int .u32 (d : Int), .int .i64 n, .string s, .slice q K.length cq] 30) := ⟨_, rfl⟩
  have hb0 : Below w.heap.size w w0 := by rw [hw0]; exact (Below.refl _ _).alloc (Nat.le_refl _) _
  have hs0 : w0.heap.size = w.heap.size + 1 := by rw [hw0]; simp
  have hC : ∀ wx : World, Below w0.heap.size w0 wx → wx.cell? ⟨w.heap.size, 7, none⟩ = some (.slice q K.length cq) := fun wx hb => by
    rw [hb.cell (p := ⟨w.heap.size, 7, none⟩) (by simp; omega), hw0, cell_alloc_at _ _ _ _ _ rfl]; rfl
  have hC0 := hC w0 (Below.refl _ _)
  go_wp2_with fail
  rw [← hw0]
  have H0 := Lib.hid hb0
  clear hw0
  have hd0 : Below w0.heap.size w0 w0.drew := (Below.refl _ _).drew
  have hCd := hC _ hd0
  have hf1 : ∀ wx : World, Below w0.heap.size w0 wx → Calls Tryd.prog 62 #[.slice q K.length cq] wx (NatPost wx (sumV K)) := fun wx hb => sum_any q K.length cq K wx rfl ((hL.nx hb0).nx hb) (by omega) (fun x hx => Nat.le_trans (hle x hx) (by omega))
  have hf2 : ∀ wx : World, Below w0.heap.size w0 wx → Calls Tryd.prog 63 #[.slice q K.length cq] wx (NatPost wx (sumV K)) := fun wx hb => sum_ref q K.length cq K wx rfl ((hL.nx hb0).nx hb) (by omega) (fun x hx => Nat.le_trans (hle x hx) (by omega))
  clear hb0 hL hle
  obtain ⟨N, hN⟩ : ∃ N, sumV K = N := ⟨_, rfl⟩
  simp only [hN] at hf1 hf2
  clear hN
  go_region_with (first
    | (go_at_call 62; refine (hf1 _ (by first | assumption | exact Below.refl _ _)).mono ?_; rintro e w1 ⟨p1, c1, rfl, ho1, hb1⟩; have hB1 : Below w0.heap.size w0 w1 := (by first | exact hb1 | exact hd0.trans (hb1.mono hd0.size)); have hC1 := hC w1 hB1)
    | (go_at_call 63; refine (hf2 _ (by first | assumption)).mono ?_; rintro e w2 ⟨p2, c2, rfl, ho2, hb2⟩; have hB2 : Below w0.heap.size w0 w2 := hB1.trans (hb2.mono hB1.size))
    | (go_at_call 48; refine (nats_same p1 p2 c1 c2 (D32 N) _ (ho1.next hb2).toV ho2.toV).mono ?_; rintro e w3 ⟨rfl, hb3⟩; have hB3 : Below w0.heap.size w0 w3 := hB2.trans (hb3.mono hB2.size)))
  all_goals
    have HZ := Lib.hid (H0.out.trans (hB3.mono (by omega)))
    clear hf1 hf2 hC hb1 hb2 hb3 hB1 hB2 hB3 ho1 ho2
    go_wp2_with fail
    go_ret
    exact ⟨rfl, HZ.out⟩

end Go.Proofs.YthhighljfjeooaaDoor
