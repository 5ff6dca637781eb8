/- The document's own package of numbers by its contracts, sixth part: Sub. -/
import Derived.Test.YthhighljfjeooaaDoorRefE
import Derived.Test.YthhighljfjeooaaDoorRaw
namespace Go.Proofs.YthhighljfjeooaaDoor
open Go.RowKit NatM

/-- a number of edenref02 that is refused: no number, and the error's number k at place pl of package nat -/
def RefErr (w : World) (pl k : Int) (v : Value) (w' : World) : Prop :=
  ∃ po pa, v = .agg #[.int .i64 k, .slice po 1 1, .slice pa 1 1] ∧ WantV w' po pa 1 1 [(natOp, pl)] ∧ Below w.heap.size w w'
def RefErr2 (w : World) (pl k : Int) (e : Ending) (w' : World) : Prop := ∃ v, e = .returned (.tuple #[.slice none 0 0, v]) ∧ RefErr w pl k v w'
def noErr : Value := .agg #[.int .i64 0, .slice none 0 0, .slice none 0 0]
def RefOk2 (w : World) (n : Nat) (e : Ending) (w' : World) : Prop :=
  ∃ p c, e = .returned (.tuple #[.slice p (D32 n).length c, noErr]) ∧ NatO w.heap.size w' p c (D32 n) ∧ Below w.heap.size w w'

/-- an Err of one package is made: its two slices are new memory -/
def RawFresh (w : World) (op : ByteArray) (pl n : Int) (e : Ending) (w' : World) : Prop :=
  ∃ g g', e = .returned (.agg #[.int .i64 n, .slice (some ⟨g, 0, none⟩) 1 1, .slice (some ⟨g', 0, none⟩) 1 1]) ∧ (w.heap.size ≤ g ∧ g < w'.heap.size ∧ w.heap.size ≤ g' ∧ g' < w'.heap.size) ∧ w'.cell? ⟨g, 0, none⟩ = some (.string op) ∧ w'.cell? ⟨g', 0, none⟩ = some (.int .i64 pl) ∧ Below w.heap.size w w'
theorem raw_fresh (op : ByteArray) (pl n : Int) (w : World) :
    Calls Tryd.prog 85 #[.string op, .int .i64 pl, .int .i64 n] w (RawFresh w op pl n) := by
  go_enter Tryd.func85, Tryd.ntmps85
  go_wp2_with fail
  refine bodyPost_ret (v := .agg #[.int .i64 n, .slice (some ⟨w.heap.size + 1, 0, none⟩) 1 1, .slice (some ⟨w.heap.size + 1 + 1, 0, none⟩) 1 1]) (by simp [results, Tryd.results85, go_sem]) rfl ⟨_, _, rfl, ⟨by omega, by simp, by omega, by simp⟩, ?_, ?_, ?_⟩
  · show World.cell? _ ⟨w.heap.size + 1, 0, none⟩ = _
    rw [World.cell?_alloc_lt _ _ ⟨w.heap.size + 1, 0, none⟩ (by simp), cell_alloc_at _ _ _ _ _ (by simp)]
    rfl
  · show World.cell? _ ⟨w.heap.size + 1 + 1, 0, none⟩ = _
    rw [cell_alloc_at _ _ _ _ _ (by simp)]
    rfl
  · exact (((Below.refl _ _).alloc (Nat.le_refl _) _).alloc (by simp) _).alloc (by simp; omega) _
theorem WantV.one {w : World} {g g' : Nat} {op : ByteArray} {pl : Int} (hg : g < w.heap.size) (hg' : g' < w.heap.size) (h : w.cell? ⟨g, 0, none⟩ = some (.string op)) (h' : w.cell? ⟨g', 0, none⟩ = some (.int .i64 pl)) : WantV w (some ⟨g, 0, none⟩) (some ⟨g', 0, none⟩) 1 1 [(op, pl)] :=
  ⟨fun _ => ⟨g, 0, rfl, hg, fun j x hx => by
    match j, hx with
    | 0, hx => simp at hx; subst hx; exact h⟩, fun _ => ⟨g', 0, rfl, hg', fun j x hx => by
    match j, hx with
    | 0, hx => simp at hx; subst hx; exact h'⟩, Nat.le_refl _, Nat.le_refl _, by decide, by decide⟩
/-- the three cells of a result of type Err are set -/
def put3 (w : World) (h : Nat) (a b c : Value) : World := ((w.setCell ⟨h, 0, none⟩ a).setCell ⟨h, 1, none⟩ b).setCell ⟨h, 2, none⟩ c
theorem put3_size (w : World) (h : Nat) (a b c : Value) : (put3 w h a b c).heap.size = w.heap.size := by simp [put3]
theorem put3_cell (w : World) (h : Nat) (a b c : Value) (p : Addr) (hp : p.block ≠ h) : (put3 w h a b c).cell? p = w.cell? p := by
  unfold put3
  have e : ∀ (u : World) (x : Addr) (v : Value), x.block = h → (u.setCell x v).cell? p = u.cell? p := fun u x v hx => World.cell?_of_block (heap_setCell_other u x p.block v (by rw [hx]; exact hp))
  rw [e _ _ _ rfl, e _ _ _ rfl, e _ _ _ rfl]
theorem put3_below {B h : Nat} {w0 w : World} (hb : Below B w0 w) (hB : B ≤ h) (a b c : Value) : Below B w0 (put3 w h a b c) := ((hb.setCell hB _).setCell hB _).setCell hB _
theorem NatO.put3 {base h : Nat} {w : World} {p : Option Addr} {c : Nat} {l : List Nat} (ho : NatO base w p c l) (hh : h < base) (a b d : Value) : NatO base (put3 w h a b d) p c l :=
  ⟨ownsRow_setCell_below (ownsRow_setCell_below (ownsRow_setCell_below ho.own (a := ⟨h, 0, none⟩) hh a) (a := ⟨h, 1, none⟩) hh b) (a := ⟨h, 2, none⟩) hh d, ho.ok⟩
/-- where the three cells of a result lie -/
structure Err3 (w : World) (h : Nat) (a b c : Value) : Prop where
  heap : w.heap[h]? = some (.cells #[a, b, c] 72 (0, 0))
theorem Err3.new (w : World) : Err3 (w.alloc (.cells #[.int .i64 0, .slice none 0 0, .slice none 0 0] 72)) w.heap.size (.int .i64 0) (.slice none 0 0) (.slice none 0 0) := ⟨heap_alloc_new w _⟩
theorem Err3.next {w w' : World} {h : Nat} {a b c : Value} (hb : Below w.heap.size w w') (k : Err3 w h a b c) : Err3 w' h a b c := ⟨by rw [hb.block _ (heap_ltN k.heap)]; exact k.heap⟩
theorem Err3.facts {w : World} {h : Nat} {a b c : Value} (k : Err3 w h a b c) : (w.frozen? ⟨h, 0, none⟩ = false ∧ w.frozen? ⟨h, 1, none⟩ = false ∧ w.frozen? ⟨h, 2, none⟩ = false) ∧ w.cell? ⟨h, 0, none⟩ = some a ∧ w.cell? ⟨h, 1, none⟩ = some b ∧ w.cell? ⟨h, 2, none⟩ = some c := by
  have hh := k.heap
  exact ⟨⟨by simp [World.frozen?, hh], by simp [World.frozen?, hh], by simp [World.frozen?, hh]⟩, cell_of_row w h 0 _ _ _ hh, cell_of_row w h 1 _ _ _ hh, cell_of_row w h 2 _ _ _ hh⟩

set_option maxRecDepth 100000 in
set_option maxHeartbeats 2000000 in
theorem sub_ref_less (p q : Option Addr) (c d : Nat) (l m : List Nat) (w : World) (h : NatV w.heap.size w p c l) (k : NatV w.heap.size w q d m) (hl : l.length ≤ 1048576) (hm : m.length ≤ 1048576) (hlt : V32 l < V32 m) :
    Calls Tryd.prog 54 #[.slice p l.length c, .slice q m.length d] w (RefErr2 w 0 3) := by
  have H := Lib.hid (And.intro h (And.intro k (And.intro hl (And.intro hm (cmp_lt hlt)))))
  clear h k hl hm hlt
  go_enter Tryd.func54, Tryd.ntmps54
  go_wp2_with fail
  obtain ⟨w0, hw0⟩ : ∃ w0, w0 = w.alloc (.cells #[.int .i64 0, .slice none 0 0, .slice none 0 0] 72) := ⟨_, rfl⟩
  rw [← hw0]
  have hb0 : Below w.heap.size w w0 := by rw [hw0]; exact (Below.refl _ _).alloc (Nat.le_refl _) _
  have hs0 : w.heap.size < w0.heap.size := by rw [hw0]; simp
  have hE0 : Err3 w0 w.heap.size (.int .i64 0) (.slice none 0 0) (.slice none 0 0) := by rw [hw0]; exact Err3.new w
  have hC := cmp_ref p q c d l m w0 (H.out.1.next hb0) (H.out.2.1.next hb0) H.out.2.2.1 H.out.2.2.2.1
  rw [H.out.2.2.2.2] at hC
  clear hw0
  refine hC.mono ?_
  clear hC
  rintro e w1 ⟨rfl, hb1⟩
  have hs1 := hb1.size
  have HB1 := Lib.hid (And.intro (hE0.next hb1) (hb0.trans (hb1.mono (Nat.le_of_lt hs0))))
  clear hb0 hb1 hE0
  go_wp2_with fail
  refine (raw_fresh natOp 0 3 w1).mono ?_
  rintro e w2 ⟨g, g', rfl, ⟨hg1, hg2, hg3, hg4⟩, hcg, hcg', hb2⟩
  obtain ⟨⟨hf0, hf1, hf2⟩, hc0, hc1, hc2⟩ := (HB1.out.1.next hb2).facts
  have HB2 := Lib.hid (And.intro hcg (And.intro hcg' (HB1.out.2.trans (hb2.mono (by omega)))))
  clear hb2 hcg hcg'
  go_wp2_with fail
  refine bodyPost_ret (v := .tuple #[.slice none 0 0, .agg #[.int .i64 3, .slice (some ⟨g, 0, none⟩) 1 1, .slice (some ⟨g', 0, none⟩) 1 1]]) (by simp [results, Tryd.results54, go_sem, hc0, hc1, hc2]) rfl ⟨_, rfl, _, _, rfl, ?_, ?_⟩
  · exact WantV.one (by simp; omega) (by simp; omega) ((put3_cell w2 w.heap.size _ _ _ _ (by simp; omega)).trans HB2.out.1) ((put3_cell w2 w.heap.size _ _ _ _ (by simp; omega)).trans HB2.out.2.1)
  · exact put3_below HB2.out.2.2 (Nat.le_refl _) _ _ _
end Go.Proofs.YthhighljfjeooaaDoor
