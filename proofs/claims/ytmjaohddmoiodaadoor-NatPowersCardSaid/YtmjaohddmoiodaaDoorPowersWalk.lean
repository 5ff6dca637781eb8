/- NatPowers: its walk: whatever the base and the two exponents, it answers true and old memory stays. -/
import Derived.Test.YtmjaohddmoiodaaDoorBackWalk
namespace Go.Proofs.YtmjaohddmoiodaaDoor
open Go.RowKit Go.Extern.Stop Go.Stop Go.Extern NatM

theorem St.start (w : World) : St w w [] := ⟨fun _ h => absurd h List.not_mem_nil, Below.refl _ _⟩
theorem len_pow {k : Nat} (hk : k < 4294967296) (m : Nat) : (D32 (k ^ m)).length ≤ m + 1 := by
  apply D32_len
  have h1 : k ^ m ≤ 4294967296 ^ m := Nat.pow_le_pow_left (by omega) m
  rw [Nat.pow_succ]
  have h2 : 0 < 4294967296 ^ m := Nat.pow_pos (by omega)
  omega
theorem St.pow {w wx : World} {L : List (Nt × Nat)} (S : St w wx L) (k n : Nat) (x : Int) (hx : x = (n : Int)) (hk : k < 4294967296) (hn : n ≤ 1024) : Calls Tryd.prog 34 #[.int .u32 (k : Int), .int .i64 x] wx (SubsPost w L (k ^ n) (n + 1)) := by
  subst hx
  exact S.gives (pow_any k n hk hn wx) (len_pow hk n)

def RawAtPost (w : World) (op : ByteArray) (pl n : Int) (e : Ending) (w' : World) : Prop :=
  e = .returned (.agg #[.int .i64 n, .slice (some ⟨w.heap.size + 1, 0, none⟩) 1 1, .slice (some ⟨w.heap.size + 2, 0, none⟩) 1 1]) ∧ WantV w' (some ⟨w.heap.size + 1, 0, none⟩) (some ⟨w.heap.size + 2, 0, none⟩) 1 1 [(op, pl)] ∧ Below w.heap.size w w'
/-- edenraw.New, with the places of what it makes -/
theorem raw_new_at (op : ByteArray) (pl n : Int) (w : World) :
    Calls Tryd.prog 30 #[.string op, .int .i64 pl, .int .i64 n] w (RawAtPost w op pl n) := by
  go_enter Tryd.func30, Tryd.ntmps30
  go_wp2_with fail
  refine bodyPost_ret (v := .agg #[.int .i64 n, .slice (some ⟨w.heap.size + 1, 0, none⟩) 1 1, .slice (some ⟨w.heap.size + 2, 0, none⟩) 1 1]) (by simp [results, Tryd.results30, go_sem]) rfl ⟨rfl, ⟨fun _ => ⟨_, _, rfl, by simp, fun j x hx => ?_⟩, fun _ => ⟨_, _, rfl, by simp, fun j x hx => ?_⟩, Nat.le_refl _, Nat.le_refl _, by decide, by decide⟩, ?_⟩
  · match j, hx with
    | 0, hx =>
      simp at hx
      subst hx
      show World.cell? _ ⟨w.heap.size + 1, 0, none⟩ = _
      rw [World.cell?_alloc_lt _ _ ⟨w.heap.size + 1, 0, none⟩ (by simp), cell_alloc_at _ _ _ _ _ (by simp)]
      rfl
  · match j, hx with
    | 0, hx =>
      simp at hx
      subst hx
      show World.cell? _ ⟨w.heap.size + 2, 0, none⟩ = _
      rw [cell_alloc_at _ _ _ _ _ (by simp)]
      rfl
  · exact (((Below.refl _ _).alloc (Nat.le_refl _) _).alloc (by simp) _).alloc (by simp; omega) _
theorem WantV.setCell {w : World} {x y co ca : Nat} {L : List (ByteArray × Int)} {p : Addr} (h : WantV w (some ⟨x, 0, none⟩) (some ⟨y, 0, none⟩) co ca L) (hx : x ≠ p.block) (hy : y ≠ p.block) (v : Value) : WantV (w.setCell p v) (some ⟨x, 0, none⟩) (some ⟨y, 0, none⟩) co ca L := by
  have hs : (w.setCell p v).heap.size = w.heap.size := by simp [World.setCell]
  refine ⟨fun hn => ?_, fun hn => ?_, h.leo, h.lea, h.capo, h.capa⟩
  · obtain ⟨b, off, hp, hlt, hc⟩ := h.ops hn
    obtain ⟨rfl, rfl⟩ : x = b ∧ 0 = off := by simpa using hp
    exact ⟨x, 0, rfl, by rw [hs]; exact hlt, fun j z hz => (World.cell?_of_block (Below.heap_setCell w p v x hx)).trans (hc j z hz)⟩
  · obtain ⟨b, off, hp, hlt, hc⟩ := h.ats hn
    obtain ⟨rfl, rfl⟩ : y = b ∧ 0 = off := by simpa using hp
    exact ⟨y, 0, rfl, by rw [hs]; exact hlt, fun j z hz => (World.cell?_of_block (Below.heap_setCell w p v y hy)).trans (hc j z hz)⟩

set_option maxRecDepth 100000 in
set_option maxHeartbeats 4000000 in
theorem powers_neg (k m n : Int) (hm : m < 0) (w : World) (A : Nat → Addr) (hr : Roots w A) (hT : TypeVar w) :
    Calls Tryd.prog 8 #[.int .u32 k, .int .i64 m, .int .i64 n] w (Tells (.bool true) w) := by
  have HR := Lib.hid (And.intro hr hT)
  clear hr hT
  go_enter Tryd.func8, Tryd.ntmps8
  go_wp2_with fail
  refine (awake_any _).mono ?_
  rintro e w1 ⟨rfl, hb1⟩
  have B1 := Lib.hid hb1
  clear hb1
  go_wp2_with fail
  refine (pow_neg k m hm _ A (HR.out.1.below B1.out)).mono ?_
  rintro e w2 ⟨b, rfl, hl2, hb2⟩
  have hv : (Tree.fault b natOp 0 (.leaf (A 3))).val = .iface 79 (.pointer (some ⟨b, 0, none⟩)) := rfl
  have B2 := Lib.hid (And.intro (B1.out.trans (hb2.mono B1.out.size)) hl2)
  rw [hv]
  clear hl2 hb2 B1 hv
  go_wp2_with fail
  refine (raw_new natOp 0 4 _).mono ?_
  rintro e w3 ⟨po, pa, rfl, _, hb3⟩
  have B3 := Lib.hid (And.intro (B2.out.1.trans (hb3.mono B2.out.1.size)) (Tree.lies_below hb3 (t := .fault b natOp 0 (.leaf (A 3))) B2.out.2))
  clear hb3 B2
  go_wp2_with fail
  have hBv : Below w3.heap.size w3 (w3.alloc (.cells #[.int .i64 4, .slice po 1 1, .slice pa 1 1] 51)) := (Below.refl _ _).alloc (Nat.le_refl _) _
  have BV := Lib.hid hBv
  clear hBv
  refine (raw_new_at natOp 0 3 _).mono ?_
  rintro e w4 ⟨rfl, hw4, hb4⟩
  have hlt : w3.heap.size < (w3.alloc (.cells #[.int .i64 4, .slice po 1 1, .slice pa 1 1] 51)).heap.size := by simp
  have hc0 : w4.cell? ⟨w3.heap.size, 0, none⟩ = some (.int .i64 4) := (hb4.cell (p := ⟨w3.heap.size, 0, none⟩) hlt).trans (by simp)
  have hc1 : w4.cell? ⟨w3.heap.size, 1, none⟩ = some (.slice po 1 1) := (hb4.cell (p := ⟨w3.heap.size, 1, none⟩) hlt).trans (by simp)
  have hc2 : w4.cell? ⟨w3.heap.size, 2, none⟩ = some (.slice pa 1 1) := (hb4.cell (p := ⟨w3.heap.size, 2, none⟩) hlt).trans (by simp)
  have hf0 : w4.frozen? ⟨w3.heap.size, 0, none⟩ = false := (hb4.frozen (p := ⟨w3.heap.size, 0, none⟩) hlt).trans (by simp)
  have hf1 : w4.frozen? ⟨w3.heap.size, 1, none⟩ = false := (hb4.frozen (p := ⟨w3.heap.size, 1, none⟩) hlt).trans (by simp)
  have hf2 : w4.frozen? ⟨w3.heap.size, 2, none⟩ = false := (hb4.frozen (p := ⟨w3.heap.size, 2, none⟩) hlt).trans (by simp)
  obtain ⟨X, hX⟩ : ∃ X, (w3.alloc (.cells #[.int .i64 4, .slice po 1 1, .slice pa 1 1] 51)).heap.size + 1 = X := ⟨_, rfl⟩
  obtain ⟨Y, hY⟩ : ∃ Y, (w3.alloc (.cells #[.int .i64 4, .slice po 1 1, .slice pa 1 1] 51)).heap.size + 2 = Y := ⟨_, rfl⟩
  have hXs : X ≠ w3.heap.size := by omega
  have hYs : Y ≠ w3.heap.size := by omega
  rw [hX, hY] at hw4 ⊢
  have HW : Hid (WantV (((w4.setCell ⟨w3.heap.size, 0, none⟩ (.int .i64 3)).setCell ⟨w3.heap.size, 1, none⟩ (.slice (some ⟨X, 0, none⟩) 1 1)).setCell ⟨w3.heap.size, 2, none⟩ (.slice (some ⟨Y, 0, none⟩) 1 1)) (some ⟨X, 0, none⟩) (some ⟨Y, 0, none⟩) 1 1 [(natOp, 0)]) :=
    ((hw4.setCell (p := ⟨w3.heap.size, 0, none⟩) hXs hYs _).setCell (p := ⟨w3.heap.size, 1, none⟩) hXs hYs _).setCell (p := ⟨w3.heap.size, 2, none⟩) hXs hYs _
  have hB5 : Below w3.heap.size w3 (((w4.setCell ⟨w3.heap.size, 0, none⟩ (.int .i64 3)).setCell ⟨w3.heap.size, 1, none⟩ (.slice (some ⟨X, 0, none⟩) 1 1)).setCell ⟨w3.heap.size, 2, none⟩ (.slice (some ⟨Y, 0, none⟩) 1 1)) :=
    (((BV.out.trans (hb4.mono BV.out.size)).setCell (p := ⟨w3.heap.size, 0, none⟩) (Nat.le_refl _) _).setCell (p := ⟨w3.heap.size, 1, none⟩) (Nat.le_refl _) _).setCell (p := ⟨w3.heap.size, 2, none⟩) (Nat.le_refl _) _
  have hB6 := B3.out.1.trans (hB5.mono B3.out.1.size)
  have HI := Lib.hid (Is_chain [(b, natOp, 0)] 3 (by omega) _ _ 1 1 1 _ A (HR.out.1.below hB6) (HR.out.2.below hB6) (Tree.lies_below hB5 (t := .fault b natOp 0 (.leaf (A 3))) B3.out.2) HW.out rfl)
  have HB6 := Lib.hid hB6
  clear hw4 hb4 BV B3 hlt hX hY hXs hYs hB5 hB6 HW
  go_wp2_with fail
  refine HI.out.mono ?_
  rintro e w7 ⟨rfl, hb7⟩
  have HB7 := Lib.hid (HB6.out.trans (hb7.mono HB6.out.size))
  clear hb7 HB6 HI
  go_wp2_with fail
  go_ret
  exact ⟨rfl, HB7.out⟩

set_option maxRecDepth 100000 in
set_option maxHeartbeats 4000000 in
theorem powers_big (k m n : Int) (hm : 1024 < m) (w : World) (A : Nat → Addr) (hr : Roots w A) (hT : TypeVar w) :
    Calls Tryd.prog 8 #[.int .u32 k, .int .i64 m, .int .i64 n] w (Tells (.bool true) w) := by
  have HR := Lib.hid (And.intro hr hT)
  have hm0 : ¬ m < 0 := by omega
  clear hr hT
  go_enter Tryd.func8, Tryd.ntmps8
  go_wp2_with fail
  refine (awake_any _).mono ?_
  rintro e w1 ⟨rfl, hb1⟩
  have B1 := Lib.hid hb1
  clear hb1
  go_wp2_with fail
  refine (pow_big k m hm _ A (HR.out.1.below B1.out)).mono ?_
  rintro e w2 ⟨b, rfl, hl2, hb2⟩
  have hv : (Tree.fault b natOp 0 (.leaf (A 4))).val = .iface 79 (.pointer (some ⟨b, 0, none⟩)) := rfl
  have B2 := Lib.hid (And.intro (B1.out.trans (hb2.mono B1.out.size)) hl2)
  rw [hv]
  clear hl2 hb2 B1 hv
  go_wp2_with fail
  refine (raw_new natOp 0 4 _).mono ?_
  rintro e w3 ⟨po, pa, rfl, hw3, hb3⟩
  have hBv : Below w3.heap.size w3 (w3.alloc (.cells #[.int .i64 4, .slice po 1 1, .slice pa 1 1] 51)) := (Below.refl _ _).alloc (Nat.le_refl _) _
  have hB3 := B2.out.1.trans (hb3.mono B2.out.1.size)
  have hB4 := hB3.trans (hBv.mono hB3.size)
  have hl4 := Tree.lies_below hBv (t := .fault b natOp 0 (.leaf (A 4))) (Tree.lies_below hb3 (t := .fault b natOp 0 (.leaf (A 4))) B2.out.2)
  have HI := Lib.hid (Is_chain [(b, natOp, 0)] 4 (by omega) _ _ 1 1 1 _ A (HR.out.1.below hB4) (HR.out.2.below hB4) hl4 (hw3.below hBv) rfl)
  have HB4 := Lib.hid hB4
  clear hw3 hb3 hBv hB3 hB4 hl4 B2
  go_wp2_with fail
  refine HI.out.mono ?_
  rintro e w7 ⟨rfl, hb7⟩
  have HB7 := Lib.hid (HB4.out.trans (hb7.mono HB4.out.size))
  clear hb7 HB4 HI
  go_wp2_with fail
  go_ret
  exact ⟨rfl, HB7.out⟩

theorem rest64 (n : Int) : ∃ nn : Nat, (wrap64 (n.tmod 64 + 64)).tmod 64 = (nn : Int) ∧ nn < 64 := by
  have h1 := Int.tmod_lt_of_pos n (by omega : (0 : Int) < 64)
  have h2 := Int.lt_tmod_of_pos n (by omega : (0 : Int) < 64)
  have h3 : wrap64 (n.tmod 64 + 64) = n.tmod 64 + 64 := IntWalk.wrap64_in _ ⟨by omega, by omega⟩
  rw [h3]
  generalize n.tmod 64 = t at *
  have h4 : (t + 64).tmod 64 = (t + 64) % 64 := Int.tmod_eq_emod_of_nonneg (by omega)
  rw [h4]
  exact ⟨((t + 64) % 64).toNat, by omega, by omega⟩
set_option maxRecDepth 100000 in
set_option maxHeartbeats 4000000 in
theorem powers_some (k m : Nat) (n : Int) (hk : k < 4294967296) (hm : m ≤ 1024) (w : World) :
    Calls Tryd.prog 8 #[.int .u32 (k : Int), .int .i64 (m : Int), .int .i64 n] w (Tells (.bool true) w) := by
  have S0 := Lib.hid (St.start w)
  go_enter Tryd.func8, Tryd.ntmps8
  go_wp2_with fail
  refine (S0.out.tells (awake_any _)).mono ?_
  rintro e w1 ⟨rfl, hS⟩
  have S1 := Lib.hid hS
  clear hS S0
  go_wp2_with fail
  refine (S1.out.pow k m _ rfl hk hm).mono ?_
  rintro e w2 ⟨p2, c2, rfl, hS⟩
  have S2 := Lib.hid hS
  clear hS S1
  go_wp2_with fail
  obtain ⟨nn, hnn, hn64⟩ := rest64 n
  rw [hnn]
  clear hnn
  refine (S2.out.pow k nn _ rfl hk (by omega)).mono ?_
  rintro e w3 ⟨p3, c3, rfl, hS⟩
  have S3 := Lib.hid hS
  clear hS S2
  go_wp2_with fail
  refine (S3.out.pow 2 m _ rfl (by omega) hm).mono ?_
  rintro e w4 ⟨p4, c4, rfl, hS⟩
  have S4 := Lib.hid hS
  clear hS S3
  go_wp2_with fail
  have hbits := bits_any p4 c4 (D32 (2 ^ m)) w4 (S4.out.get (i := 0) rfl).1 (by have := (S4.out.get (i := 0) rfl).2; omega)
  rw [V32_D32, show bits2 (2 ^ m) = m + 1 from len2_pow m] at hbits
  refine (S4.out.tells hbits).mono ?_
  clear hbits
  rintro e w5 ⟨rfl, hS⟩
  have S5 := Lib.hid hS
  clear hS S4
  by_cases hbig : 1024 < m + nn
  · have SB := Lib.hid S5.out.below
    clear S5
    have hb1 : (1024 : Int) < (m : Int) + (nn : Int) := by omega
    go_wp2_with fail
    go_ret
    exact ⟨rfl, SB.out⟩
  · have hb1 : ¬ (1024 : Int) < (m : Int) + (nn : Int) := by omega
    go_wp2_with fail
    refine (S5.out.pow k (m + nn) _ (by omega) hk (by omega)).mono ?_
    rintro e w6 ⟨p6, c6, rfl, hS⟩
    have S6 := Lib.hid hS
    clear hS S5
    go_wp2_with fail
    refine (S6.out.mul 3 2 (k ^ (m + nn)) rfl rfl (by omega) (by omega) (by rw [V32_D32, V32_D32, Nat.pow_add]) rfl rfl).mono ?_
    rintro e w7 ⟨p7, c7, rfl, hS⟩
    have S7 := Lib.hid hS
    clear hS S6
    go_wp2_with fail
    refine (S7.out.cmp 1 0 rfl rfl rfl rfl 0 (cmp_eq _)).mono ?_
    rintro e w8 ⟨rfl, hS⟩
    have SB := Lib.hid hS.below
    clear hS S7
    go_wp2_with fail
    go_ret
    exact ⟨rfl, SB.out⟩
end Go.Proofs.YtmjaohddmoiodaaDoor
