/- The document's own package of rings by its contracts, first part: Neck; and the maths of necks. -/
import Derived.Test.YtgdjnohhofbcnaaDoorB4
import Derived.Test.YtgdjnohhofbcnaaDoorB5
namespace Go.Proofs.YtgdjnohhofbcnaaDoor
open Go.RowKit Go.Extern.Stop Go.Stop Go.Extern WordM RuleM NatM

theorem neckW_len (l : List Int) : (neckW l).length = l.length := rot_length _ _
/-- a ring and its turns have one neck -/
theorem neck_rot (l : List Int) (t : Nat) : neckW (rot l t) = neckW l := by
  rcases Nat.eq_zero_or_pos l.length with h | h
  · obtain rfl : l = [] := List.eq_nil_of_length_eq_zero h
    have e : rot ([] : List Int) t = [] := List.eq_nil_of_length_eq_zero (by rw [rot_length]; rfl)
    rw [e]
  · exact least_rot (leastW_is h) (leastW_is (l := rot l t) (by rw [rot_length]; exact h))
theorem neck_turnW (l : List Int) (z : Int) : neckW (turnW l z) = neckW l := neck_rot _ _
/-- the images of a ring and of its neck have one neck -/
theorem neck_ring (k r : Nat) (t l : List Int) : neckW (ringW k r t (neckW l)) = neckW (ringW k r t l) := by
  unfold neckW
  rw [ring_rot]
  exact neck_rot _ _
theorem rot_ok {k : Nat} {l : List Int} (h0 : 0 < l.length) (h : okW k l) (s : Nat) : okW k (rot l s) := fun z hz => by
  obtain ⟨i, hi⟩ := List.mem_iff_getElem?.1 hz
  have hlt := (List.getElem?_eq_some_iff.1 hi).1
  rw [F_get hlt] at hi
  obtain rfl := Option.some.inj hi
  rw [F_rot]
  exact F_ok h0 h _
theorem rot_ok' {k : Nat} {l : List Int} (h0 : 0 < l.length) (s : Nat) (h : okW k (rot l s)) : okW k l := by
  have h1 := rot_ok (l := rot l s) (by rw [rot_length]; exact h0) h (l.length - s % l.length)
  have hm : s % l.length < l.length := Nat.mod_lt _ h0
  rw [← rot_mod l s, rot_rot, show s % l.length + (l.length - s % l.length) = l.length by omega, rot_len] at h1
  exact h1
theorem neck_ok {k : Nat} {l : List Int} (h0 : 0 < l.length) (h : okW k l) : okW k (neckW l) := rot_ok h0 h _
theorem neck_bad {k r : Int} {t l : List Int} {y : List (ByteArray × Int) × Nat} (h0 : 0 < l.length) (h : chkG k r t l = some y) : ∃ z, chkG k r t (neckW l) = some z := by
  cases hz : chkG k r t (neckW l) with
  | some z => exact ⟨z, rfl⟩
  | none =>
    obtain ⟨K, R, rfl, rfl, ho, _, h4, hw⟩ := chkG_none hz
    rw [neckW_len] at h4
    rw [chkG_ok ho h0 h4 (rot_ok' h0 _ hw)] at h
    cases h
/-- a list, and no error; or the error alone -/
def GRefOk (w : World) (l : List Int) (e : Ending) (w' : World) : Prop :=
  ∃ p c, e = .returned (.tuple #[.slice p l.length c, .agg #[.int .i64 0, .slice none 0 0, .slice none 0 0]]) ∧ IntO w.heap.size w' p c l ∧ Below w.heap.size w w'
def GRefErr (w : World) (op : ByteArray) (pl a : Int) (e : Ending) (w' : World) : Prop :=
  ∃ g g', e = .returned (.tuple #[.slice none 0 0, .agg #[.int .i64 a, .slice (some ⟨g, 0, none⟩) 1 1, .slice (some ⟨g', 0, none⟩) 1 1]]) ∧ WantV w' (some ⟨g, 0, none⟩) (some ⟨g', 0, none⟩) 1 1 [(op, pl)] ∧ Below w.heap.size w w'
theorem box_err (w : World) (a b c : Value) : ∀ (w0 : World), w0 = w.alloc (.cells #[a, b, c] 34) → Below w.heap.size w w0 ∧ Err3 w0 w.heap.size a b c := fun w0 hw0 =>
  ⟨by rw [hw0]; exact (Below.refl _ _).alloc (Nat.le_refl _) _, by rw [hw0]; exact ⟨heap_newN w _⟩⟩
theorem neck_ref_ok (q : Option Addr) (m d : Nat) (l : List Int) (w : World) (hm : m = l.length) (h : IntV w.heap.size w q d l) (h0 : 0 < m) (hl : l.length ≤ 1000000) :
    Calls Tryd.prog 29 #[.slice q m d] w (GRefOk w (neckW l)) := by
  have hnk := neck_turn (l := l) (by omega)
  have ST := Lib.hid (box_err w (.int .i64 0) (.slice none 0 0) (.slice none 0 0))
  have H := Lib.hid (And.intro hm (And.intro h (And.intro hl hnk)))
  clear hm h hl hnk
  go_enter Tryd.func29, Tryd.ntmps29
  go_upto_region 1 with fail
  obtain ⟨w0, hw0⟩ : ∃ w0, w0 = w.alloc (.cells #[.int .i64 0, .slice none 0 0, .slice none 0 0] 34) := ⟨_, rfl⟩
  rw [← hw0]
  obtain ⟨hb0, hE0⟩ := ST.out w0 hw0
  have HE := Lib.hid (And.intro hE0 hb0)
  clear hw0 hE0 hb0
  go_wp2_with fail
  refine (least_ref q m d l w0 H.out.1 (H.out.2.1.next HE.out.2) H.out.2.2.1).mono ?_
  rintro e w1 ⟨rfl, hb1⟩
  have H1 := Lib.hid (And.intro (HE.out.2.trans (hb1.mono HE.out.2.size)) (HE.out.1.next hb1))
  clear hb1
  go_wp2_with fail
  have ht := turn_ref q m d l ((leastW l : Nat) : Int) w1 H.out.1 (H.out.2.1.next H1.out.1) (by have := H.out.2.2.1; omega)
  rw [H.out.2.2.2] at ht
  refine ht.mono ?_
  clear ht
  rintro e w2 ⟨p2, c2, rfl, ho2, hb2⟩
  have hlt := heap_ltN H1.out.2.heap
  have hE2 := H1.out.2.next hb2
  have H2 := Lib.hid (And.intro ho2 (And.intro (H1.out.1.trans (hb2.mono H1.out.1.size)) hlt))
  obtain ⟨⟨hf0, hf1, hf2⟩, hc0, hc1, hc2⟩ := hE2.facts
  clear ho2 hb2 hlt hE2
  go_wp2_with fail
  refine bodyPost_ret (v := .tuple #[.slice p2 (neckW l).length c2, noErr]) (by simp [results, Tryd.results29, go_sem, hc0, hc1, hc2, noErr]) rfl ⟨p2, c2, rfl, ?_, put3_below H2.out.2.1 (Nat.le_refl _) _ _ _⟩
  exact IntO.base (by have := H1.out.1.size; omega) (ownsRow_setCell_below (ownsRow_setCell_below (ownsRow_setCell_below H2.out.1 (a := ⟨w.heap.size, 0, none⟩) H2.out.2.2 _) (a := ⟨w.heap.size, 1, none⟩) H2.out.2.2 _) (a := ⟨w.heap.size, 2, none⟩) H2.out.2.2 _)
theorem neck_ref_bad (q : Option Addr) (d : Nat) (w : World) :
    Calls Tryd.prog 29 #[.slice q 0 d] w (GRefErr w ringOp 0 3) := by
  have ST := Lib.hid (box_err w (.int .i64 0) (.slice none 0 0) (.slice none 0 0))
  go_enter Tryd.func29, Tryd.ntmps29
  go_upto_region 1 with fail
  obtain ⟨w0, hw0⟩ : ∃ w0, w0 = w.alloc (.cells #[.int .i64 0, .slice none 0 0, .slice none 0 0] 34) := ⟨_, rfl⟩
  rw [← hw0]
  obtain ⟨hb0, hE0⟩ := ST.out w0 hw0
  have HE := Lib.hid (And.intro hE0 hb0)
  clear hw0 hE0 hb0
  go_wp2_with fail
  refine (raw_fresh ringOp 0 3 _).mono ?_
  rintro e w2 ⟨g, g', rfl, ⟨hg1, hg2, hg3, hg4⟩, hcg, hcg', hb2⟩
  obtain ⟨⟨hf0, hf1, hf2⟩, hc0, hc1, hc2⟩ := (HE.out.1.next hb2).facts
  have hgs := HE.out.2.size
  have hgt : w.heap.size < w0.heap.size := heap_ltN HE.out.1.heap
  have HB2 := Lib.hid (And.intro hcg (And.intro hcg' (And.intro (HE.out.2.trans (hb2.mono (by omega))) (And.intro hgt (And.intro hg1 hg3)))))
  clear hb2 hcg hcg' hgs hgt
  go_wp2_with fail
  refine bodyPost_ret (v := .tuple #[.slice none 0 0, .agg #[.int .i64 3, .slice (some ⟨g, 0, none⟩) 1 1, .slice (some ⟨g', 0, none⟩) 1 1]]) (by simp [results, Tryd.results29, go_sem, hc0, hc1, hc2]) rfl ⟨g, g', rfl, ?_, ?_⟩
  · exact WantV.one (by simp; omega) (by simp; omega) ((put3_cell w2 w.heap.size _ _ _ _ (by have := HB2.out.2.2.2; simp only []; omega)).trans HB2.out.1) ((put3_cell w2 w.heap.size _ _ _ _ (by have := HB2.out.2.2.2; simp only []; omega)).trans HB2.out.2.1)
  · exact put3_below HB2.out.2.2.1 (Nat.le_refl _) _ _ _
end Go.Proofs.YtgdjnohhofbcnaaDoor
