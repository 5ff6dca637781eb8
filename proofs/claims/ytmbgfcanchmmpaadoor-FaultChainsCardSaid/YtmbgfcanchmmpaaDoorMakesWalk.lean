/- FaultMakes, first part: the texts of errors, by contracts. -/
import Derived.Test.YtmbgfcanchmmpaaDoorFaultL
import Derived.Test.YtmbgfcanchmmpaaDoorItoa
import Derived.Lib.AppendIntMem
import Derived.Lib.ItoaLen
import Derived.Deep.RegionWith
import Derived.Deep.DeepCutAuto
import Derived.Laws.Concat
import Derived.Outline
namespace Go.Proofs.YtmbgfcanchmmpaaDoor
open Go.RowKit Go.Extern.Stop Go.Stop Go.Extern

/-- What the law's texts lean on: api's errors, their texts, and strconv's table. -/
structure Texted (w : World) (A : Nat → Addr) : Prop where
  roots : Roots w A
  type : TypeVar w
  text : ∀ k, k ≤ 11 → ∃ s : ByteArray, w.cell? (A k) = some (.string s) ∧ s.size ≤ 64
  tab : Lib.TabBelow Tryd.prog w.heap.size w "internal/strconv.uint64pow10" .u64 Lib.pow10Tab
theorem Texted.below {w w' : World} {A : Nat → Addr} (hb : Below w.heap.size w w') (h : Texted w A) : Texted w' A :=
  ⟨h.roots.below hb, h.type.below hb, fun k hk => by
    obtain ⟨s, h1, h2⟩ := h.text k hk
    exact ⟨s, (hb.cell (cell_lt h1)).trans h1, h2⟩, fun w2 h2 => h.tab w2 (hb.trans (h2.mono hb.size))⟩

def itoaB (n : Int) : ByteArray := ⟨(Lib.itoa n).toArray⟩
theorem itoaB_size (n : Int) (h0 : -9223372036854775808 ≤ n) (h1 : n ≤ 9223372036854775807) : (itoaB n).size ≤ 21 := by
  have := Lib.itoa_length_le n h0 h1
  show (Lib.itoa n).toArray.size ≤ 21
  simpa using this
def StrPost (w : World) (s : ByteArray) (e : Ending) (w' : World) : Prop := e = .returned (.string s) ∧ Below w.heap.size w w'
theorem Itoa_any (n : Int) (h0 : -9223372036854775808 ≤ n) (h1 : n ≤ 9223372036854775807) (w : World) (htab : Lib.TabBelow Tryd.prog w.heap.size w "internal/strconv.uint64pow10" .u64 Lib.pow10Tab) :
    Calls Tryd.prog 23 #[.int .i64 n] w (StrPost w (itoaB n)) :=
  (Tryd.strconv_Itoa n h0 h1 w htab.here).mono fun _ _ ⟨he, k, os, hw⟩ => ⟨he, by rw [hw]; exact Lib.below_grow _ w (Nat.le_refl _) k os⟩

theorem errText (a : Addr) (s : ByteArray) (w : World) (h : w.cell? a = some (.string s)) :
    Calls Tryd.prog 87 #[.pointer (some a)] w fun e w' => e = .returned (.string s) ∧ w = w' := by
  go_enter Tryd.func87, Tryd.ntmps87
  go_wp2
  go_ret
  exact ⟨rfl, rfl⟩
theorem methodE94 (v : Value) (w : World) : (Go.method 256 94 v "Error").run Tryd.prog w = .ok (87, v) w := by kernel_rfl
theorem methodE44 (v : Value) (w : World) : (Go.method 256 44 v "Error").run Tryd.prog w = .ok (77, v) w := by kernel_rfl

/-- A Fault's text. -/
def faultText (op : ByteArray) (pl : Int) (s : ByteArray) : ByteArray := ((op ++ ⟨#[32]⟩) ++ itoaB pl) ++ (⟨#[58, 32]⟩ ++ s)

set_option maxHeartbeats 2000000 in
theorem faultError (b : Nat) (op : ByteArray) (pl : Int) (a : Addr) (s : ByteArray) (w : World) (A : Nat → Addr) (hx : Texted w A) (h0 : -9223372036854775808 ≤ pl) (h1 : pl ≤ 9223372036854775807)
    (hl : w.heap[b]? = some (.cells #[.string op, .int .i64 pl, .iface 94 (.pointer (some a))] 48 (0, 0))) (ha : w.cell? a = some (.string s)) (hop : op.size ≤ 140737488351232) (hs : s.size ≤ 64) :
    Calls Tryd.prog 77 #[.pointer (some ⟨b, 0, none⟩)] w (StrPost w (faultText op pl s)) := by
  have c0 : w.cell? ⟨b, 0, none⟩ = some (.string op) := by simp [World.cell?, hl]
  have c1 : w.cell? ⟨b, 1, none⟩ = some (.int .i64 pl) := by simp [World.cell?, hl]
  have c2 : w.cell? ⟨b, 2, none⟩ = some (.iface 94 (.pointer (some a))) := by simp [World.cell?, hl]
  have hbl : b < w.heap.size := heap_lt hl
  have hal := cell_lt ha
  have mE := methodE94
  have hz := itoaB_size pl h0 h1
  have a1 := fun (W : World) => run_string_add_sum (P := Tryd.prog) W op ⟨#[32]⟩ (by have : (⟨#[32]⟩ : ByteArray).size = 1 := rfl; omega)
  have a2 := fun (W : World) => run_string_add_sum (P := Tryd.prog) W (op ++ ⟨#[32]⟩) (itoaB pl) (by have : (⟨#[32]⟩ : ByteArray).size = 1 := rfl; rw [ByteArray.size_append]; omega)
  have a3 := fun (W : World) => run_string_add_sum (P := Tryd.prog) W ⟨#[58, 32]⟩ s (by have : (⟨#[58, 32]⟩ : ByteArray).size = 2 := rfl; omega)
  have a4 := fun (W : World) => run_string_add_sum (P := Tryd.prog) W ((op ++ ⟨#[32]⟩) ++ itoaB pl) (⟨#[58, 32]⟩ ++ s) (by have : (⟨#[58, 32]⟩ : ByteArray).size = 2 := rfl; have : (⟨#[32]⟩ : ByteArray).size = 1 := rfl; simp only [ByteArray.size_append]; omega)
  have HF : Hid (faultText op pl s = ((op ++ ⟨#[32]⟩) ++ itoaB pl) ++ (⟨#[58, 32]⟩ ++ s)) := rfl
  obtain ⟨p1, hp1⟩ : ∃ x, op ++ (⟨#[32]⟩ : ByteArray) = x := ⟨_, rfl⟩
  rw [hp1] at a1 a2 a4 HF
  obtain ⟨p2, hp2⟩ : ∃ x, p1 ++ itoaB pl = x := ⟨_, rfl⟩
  rw [hp2] at a2 a4 HF
  obtain ⟨p3, hp3⟩ : ∃ x, (⟨#[58, 32]⟩ : ByteArray) ++ s = x := ⟨_, rfl⟩
  rw [hp3] at a3 a4 HF
  obtain ⟨p4, hp4⟩ : ∃ x, p2 ++ p3 = x := ⟨_, rfl⟩
  rw [hp4] at a4 HF
  have HX := Lib.hid hx
  have HC := Lib.hid (And.intro c0 (And.intro c1 c2))
  clear hx hl hp1 hp2 hp3 hp4 hop hs hz
  go_enter Tryd.func77, Tryd.ntmps77
  go_upto_region 3 with fail
  go_cut [3] (fun v wx => v = .string p2 ∧ Below w.heap.size w wx)
  case first =>
    have hd : Below w.heap.size w w.drew := (Below.refl _ _).drew
    go_region_with (first
      | (go_at_call 23; refine (Itoa_any pl h0 h1 _ ?_).mono ?_; exact (HX.out.below hd).tab; rintro e w' ⟨rfl, hb⟩; have hb' := hd.trans (hb.mono hd.size); have k0 := (hb'.cell (p := ⟨b, 0, none⟩) hbl).trans c0; have k1 := (hb'.cell (p := ⟨b, 1, none⟩) hbl).trans c1))
    all_goals (go_wp2_with fail; go_meet; exact ⟨rfl, by assumption⟩)
  case rest =>
    obtain ⟨rfl, hb⟩ := hcut
    have k0 := (hb.cell (p := ⟨b, 0, none⟩) hbl).trans c0
    have k1 := (hb.cell (p := ⟨b, 1, none⟩) hbl).trans c1
    have k2 := (hb.cell (p := ⟨b, 2, none⟩) hbl).trans c2
    have k3 := (hb.cell hal).trans ha
    go_wp2_with (go_at_call 87; refine (errText a s _ k3).mono ?_; rintro e w' ⟨rfl, rfl⟩)
    go_ret
    exact ⟨by rw [HF.out]; rfl, hb⟩
end Go.Proofs.YtmbgfcanchmmpaaDoor
