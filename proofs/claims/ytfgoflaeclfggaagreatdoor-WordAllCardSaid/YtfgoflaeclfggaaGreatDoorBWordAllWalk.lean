/- WordAll: its walk: whatever the ops, it answers true and old memory stays. -/
import Derived.Test.YtfgoflaeclfggaaGreatDoorB6
import Derived.Test.YtfgoflaeclfggaaGreatDoorB5
import Derived.Outline
import Derived.BigQuiet
namespace Go.Proofs.YtfgoflaeclfggaaGreatDoor
open Go.RowKit Go.Extern.Stop Go.Stop Go.Extern WordM NatM

/-- The two ops of a round: the one of the list (block g4) and its copy (block g5). -/
structure Aw (w wx : World) (o : Ow) (g4 g5 : Nat) (a b c : Value) : Prop where
  below : Below w.heap.size w wx
  ob : wx.heap[g4]? = some (.cells o.row.toArray 28 (0, 0))
  pb : wx.heap[g5]? = some (.cells #[.int .i64 o.k, .int .i64 o.K, .int .i64 o.n, a, b, c, .string o.s] 28 (0, 0))
  h4 : w.heap.size ≤ g4
  h5 : w.heap.size ≤ g5
  ne : g4 ≠ g5
section
variable {w wx w' : World} {o : Ow} {g4 g5 : Nat} {a b c : Value}
theorem Aw.next (h : Aw w wx o g4 g5 a b c) (hb : Below wx.heap.size wx w') : Aw w w' o g4 g5 a b c :=
  ⟨h.below.trans (hb.mono h.below.size), (hb.block g4 (heap_ltN h.ob)).trans h.ob, (hb.block g5 (heap_ltN h.pb)).trans h.pb, h.h4, h.h5, h.ne⟩
theorem Aw.seta (h : Aw w wx o g4 g5 a b c) (v : Value) : Aw w (wx.setCell ⟨g5, 3, none⟩ v) o g4 g5 v b c :=
  ⟨h.below.setCell (p := ⟨g5, 3, none⟩) h.h5 _, (Below.heap_setCell wx ⟨g5, 3, none⟩ v g4 h.ne).trans h.ob, by rw [heap_setCell_same _ g5 3 _ _ _ h.pb]; rfl, h.h4, h.h5, h.ne⟩
theorem Aw.setb (h : Aw w wx o g4 g5 a b c) (v : Value) : Aw w (wx.setCell ⟨g5, 4, none⟩ v) o g4 g5 a v c :=
  ⟨h.below.setCell (p := ⟨g5, 4, none⟩) h.h5 _, (Below.heap_setCell wx ⟨g5, 4, none⟩ v g4 h.ne).trans h.ob, by rw [heap_setCell_same _ g5 4 _ _ _ h.pb]; rfl, h.h4, h.h5, h.ne⟩
theorem Aw.setc (h : Aw w wx o g4 g5 a b c) (v : Value) : Aw w (wx.setCell ⟨g5, 5, none⟩ v) o g4 g5 a b v :=
  ⟨h.below.setCell (p := ⟨g5, 5, none⟩) h.h5 _, (Below.heap_setCell wx ⟨g5, 5, none⟩ v g4 h.ne).trans h.ob, by rw [heap_setCell_same _ g5 5 _ _ _ h.pb]; rfl, h.h4, h.h5, h.ne⟩
theorem Aw.oa (h : Aw w wx o g4 g5 a b c) : wx.cell? ⟨g4, 3, none⟩ = some (.slice o.p o.l.length o.c) := (cell_of_row wx g4 3 _ _ _ h.ob).trans rfl
theorem Aw.ov (h : Aw w wx o g4 g5 a b c) : wx.cell? ⟨g4, 4, none⟩ = some (.slice o.q o.m.length o.e) := (cell_of_row wx g4 4 _ _ _ h.ob).trans rfl
theorem Aw.oi (h : Aw w wx o g4 g5 a b c) : wx.cell? ⟨g4, 5, none⟩ = some (.slice o.r o.b.length o.f) := (cell_of_row wx g4 5 _ _ _ h.ob).trans rfl
theorem Aw.pa (h : Aw w wx o g4 g5 a b c) : wx.cell? ⟨g5, 3, none⟩ = some a := (cell_of_row wx g5 3 _ _ _ h.pb).trans rfl
theorem Aw.pv (h : Aw w wx o g4 g5 a b c) : wx.cell? ⟨g5, 4, none⟩ = some b := (cell_of_row wx g5 4 _ _ _ h.pb).trans rfl
theorem Aw.pi (h : Aw w wx o g4 g5 a b c) : wx.cell? ⟨g5, 5, none⟩ = some c := (cell_of_row wx g5 5 _ _ _ h.pb).trans rfl
theorem Aw.row (h : Aw w wx o g4 g5 a b c) : wx.cell? ⟨g5, 0, none⟩ = some (.int .i64 o.k) ∧ wx.cell? ⟨g5, 1, none⟩ = some (.int .i64 o.K) ∧ wx.cell? ⟨g5, 2, none⟩ = some (.int .i64 o.n) ∧ wx.cell? ⟨g5, 3, none⟩ = some a ∧ wx.cell? ⟨g5, 4, none⟩ = some b ∧ wx.cell? ⟨g5, 5, none⟩ = some c ∧ wx.cell? ⟨g5, 6, none⟩ = some (.string o.s) :=
  ⟨(cell_of_row wx g5 0 _ _ _ h.pb).trans rfl, (cell_of_row wx g5 1 _ _ _ h.pb).trans rfl, (cell_of_row wx g5 2 _ _ _ h.pb).trans rfl, (cell_of_row wx g5 3 _ _ _ h.pb).trans rfl, (cell_of_row wx g5 4 _ _ _ h.pb).trans rfl, (cell_of_row wx g5 5 _ _ _ h.pb).trans rfl, (cell_of_row wx g5 6 _ _ _ h.pb).trans rfl⟩
theorem Aw.fr (h : Aw w wx o g4 g5 a b c) (j : Nat) : wx.frozen? ⟨g5, j, none⟩ = false := frozen_of_row wx g5 j _ _ h.pb
end
theorem row7 {wx : World} {g : Nat} {o : Ow} (h : wx.heap[g]? = some (.cells o.row.toArray 28 (0, 0))) : wx.cell? ⟨g, 0, none⟩ = some (.int .i64 o.k) ∧ wx.cell? ⟨g, 1, none⟩ = some (.int .i64 o.K) ∧ wx.cell? ⟨g, 2, none⟩ = some (.int .i64 o.n) ∧ wx.cell? ⟨g, 3, none⟩ = some (.slice o.p o.l.length o.c) ∧ wx.cell? ⟨g, 4, none⟩ = some (.slice o.q o.m.length o.e) ∧ wx.cell? ⟨g, 5, none⟩ = some (.slice o.r o.b.length o.f) ∧ wx.cell? ⟨g, 6, none⟩ = some (.string o.s) :=
  ⟨(cell_of_row wx g 0 _ _ _ h).trans rfl, (cell_of_row wx g 1 _ _ _ h).trans rfl, (cell_of_row wx g 2 _ _ _ h).trans rfl, (cell_of_row wx g 3 _ _ _ h).trans rfl, (cell_of_row wx g 4 _ _ _ h).trans rfl, (cell_of_row wx g 5 _ _ _ h).trans rfl, (cell_of_row wx g 6 _ _ _ h).trans rfl⟩
theorem LentB.vw {w : World} {g n : Nat} {l : List Nat} (h : LentB w g l) (hn : l.length = n) (ok : ok32 l) (hl : l.length ≤ 100000) : NatV w.heap.size w (some ⟨g, 0, none⟩) (n + 2) l := by
  subst hn
  exact (LentB.own (base := 0) (Nat.zero_le _) ok hl h).toV
def AllRelW (w : World) (n : Nat) (v : Value) (wr : World) : Prop := ∃ i : Nat, i ≤ n ∧ v = .int .i64 (i : Int) ∧ Below w.heap.size w wr

set_option maxRecDepth 100000 in
set_option maxHeartbeats 16000000 in
theorem wordall_any (p : Option Addr) (n cap : Nat) (nd : Nat → Ow) (w : World) (A : Nat → Addr) (hr : Roots w A) (hT : TypeVar w) (hO : Opsw w p n cap nd) :
    Calls Tryz.prog 3 #[.slice p n cap] w (Tells (.bool true) w) := by
  have HO := Lib.hid hO
  have HR := Lib.hid (And.intro hr hT)
  have hnc := hO.1
  clear hO hr hT
  go_enter Tryz.func3, Tryz.ntmps3
  go_wp2_with fail
  refine (awakeW _).mono ?_
  rintro e w1 ⟨rfl, hb1⟩
  have B1 := Lib.hid hb1
  clear hb1
  go_wp2_with fail
  go_loopw [3] (fun v wr => AllRelW w n v wr) (fun v _ => n - (intOf v).toNat)
  case atStart => exact ⟨0, Nat.zero_le _, rfl, B1.out⟩
  case round =>
    obtain ⟨i, hi, rfl, hbr⟩ := hrel
    have BR := Lib.hid hbr
    clear hbr
    by_cases hlt : i < n
    · by_cases h40 : i < 40
      · obtain ⟨b, off, hp, hbl, hcl, hok⟩ := HO.out.2 i hlt
        subst hp
        obtain ⟨o, ho⟩ : ∃ o, nd i = o := ⟨_, rfl⟩
        rw [ho] at hcl hok
        obtain ⟨k, K, on, op, oq, or, oc, oe, of, ol, om, ob, os⟩ := o
        have hcw : ∀ (j : Nat) (z : Value), (Ow.row ⟨k, K, on, op, oq, or, oc, oe, of, ol, om, ob, os⟩)[j]? = some z → wr.cell? ⟨b, off + i * 7 + j, none⟩ = some z := fun j z hz => (BR.out.cell (p := ⟨b, off + i * 7 + j, none⟩) hbl).trans (hcl j z hz)
        have c0 : wr.cell? ⟨b, off + i * 7, none⟩ = some (.int .i64 k) := hcw 0 _ rfl
        have c1 : wr.cell? ⟨b, off + i * 7 + 1, none⟩ = some (.int .i64 K) := hcw 1 _ rfl
        have c2 : wr.cell? ⟨b, off + i * 7 + 2, none⟩ = some (.int .i64 on) := hcw 2 _ rfl
        have c3 : wr.cell? ⟨b, off + i * 7 + 3, none⟩ = some (.slice op ol.length oc) := hcw 3 _ rfl
        have c4 : wr.cell? ⟨b, off + i * 7 + 4, none⟩ = some (.slice oq om.length oe) := hcw 4 _ rfl
        have c5 : wr.cell? ⟨b, off + i * 7 + 5, none⟩ = some (.slice or ob.length of) := hcw 5 _ rfl
        have c6 : wr.cell? ⟨b, off + i * 7 + 6, none⟩ = some (.string os) := hcw 6 _ rfl
        have hokw : ∀ wx : World, Below wr.heap.size wr wx → OkOw wx ⟨k, K, on, op, oq, or, oc, oe, of, ol, om, ob, os⟩ := fun wx hb => (hok.next BR.out).next hb
        have HK := Lib.hid hokw
        clear hcl hok hcw ho hokw
        obtain ⟨ln, hln⟩ : ∃ x, ob.length = x := ⟨_, rfl⟩
        rw [hln] at c5
        have HLN := Lib.hid hln
        clear hln
        go_upto_region 7 with fail
        obtain ⟨wA, hwA⟩ : ∃ x, x = wr.alloc (.cells #[.int .i64 k, .int .i64 K, .int .i64 on, .slice op ol.length oc, .slice oq om.length oe, .slice or ln of, .string os] 28) := ⟨_, rfl⟩
        rw [← hwA]
        have hbA : Below wr.heap.size wr wA := by rw [hwA]; exact (Below.refl _ _).alloc (Nat.le_refl _) _
        have hoA : wA.heap[wr.heap.size]? = some (.cells (Ow.row ⟨k, K, on, op, oq, or, oc, oe, of, ol, om, ob, os⟩).toArray 28 (0, 0)) := by rw [hwA, ← HLN.out]; exact heap_newN wr _
        obtain ⟨g4, hg4⟩ : ∃ g, wr.heap.size = g := ⟨_, rfl⟩
        rw [hg4] at hoA ⊢
        obtain ⟨hq0, hq1, hq2, hq3, hq4, hq5, hq6⟩ := row7 hoA
        simp only [HLN.out] at hq0 hq1 hq2 hq3 hq4 hq5 hq6
        have HA := Lib.hid (And.intro hbA (And.intro hoA hg4))
        clear hwA hbA hoA hg4 c0 c1 c2 c3 c4 c5 c6
        by_cases h100 : 100 < ln
        · go_wp2_with fail
          go_roundw
          case rel => exact ⟨i + 1, by omega, by go_num, BR.out.trans (HA.out.1.mono BR.out.size)⟩
          case measure => simp [intOf]; omega
        · go_upto_region 9 with fail
          obtain ⟨w4, hw4⟩ : ∃ x, x = wA.alloc (.cells #[.int .i64 k, .int .i64 K, .int .i64 on, .slice op ol.length oc, .slice oq om.length oe, .slice or ln of, .string os] 28) := ⟨_, rfl⟩
          rw [← hw4]
          obtain ⟨g5, hg5⟩ : ∃ g, wA.heap.size = g := ⟨_, rfl⟩
          have hP4 : Aw wr w4 ⟨k, K, on, op, oq, or, oc, oe, of, ol, om, ob, os⟩ g4 g5 (.slice op ol.length oc) (.slice oq om.length oe) (.slice or ob.length of) := by
            have hb34 : Below wA.heap.size wA w4 := by rw [hw4]; exact (Below.refl _ _).alloc (Nat.le_refl _) _
            have h1 := heap_ltN HA.out.2.1
            have h2 := HA.out.1.size
            have h3 := HA.out.2.2
            exact ⟨HA.out.1.trans (hb34.mono h2), (hb34.block g4 h1).trans HA.out.2.1, by rw [hw4, ← hg5, ← HLN.out]; exact heap_newN wA _, by omega, by omega, by omega⟩
          rw [hg5]
          have hK4 : OkOw w4 ⟨k, K, on, op, oq, or, oc, oe, of, ol, om, ob, os⟩ := HK.out w4 hP4.below
          have r41 : w4.cell? ⟨g4, 3, none⟩ = some (.slice op ol.length oc) := hP4.oa
          have S4 := Lib.hid (And.intro hP4 hK4)
          clear hw4 hg5 hP4 hK4 HA hq0 hq1 hq2 hq3 hq4 hq5 hq6
          obtain ⟨nl, hnl⟩ : ∃ x, ol.length = x := ⟨_, rfl⟩
          obtain ⟨nm, hnm⟩ : ∃ x, om.length = x := ⟨_, rfl⟩
          have HNL := Lib.hid (And.intro hnl hnm)
          have hc4 := lentI_any op oc ol w4 S4.out.2.a S4.out.2.la
          unfold LentPostI at hc4
          rw [hnl] at hc4 r41
          have HC4 := Lib.hid hc4
          clear hc4 hnl hnm
          go_wp2_with fail
          refine HC4.out.mono ?_
          rintro e w5 ⟨rfl, hla, hb5⟩
          obtain ⟨gA, hgA⟩ : ∃ g, w4.heap.size = g := ⟨_, rfl⟩
          rw [hgA] at hla ⊢
          have hP5 := S4.out.1.next hb5
          have hA5 : g5 < gA := by rw [← hgA]; exact heap_ltN S4.out.1.pb
          have r51 : w5.cell? ⟨g5, 3, none⟩ = some (.slice op nl oc) := by rw [← HNL.out.1]; exact hP5.pa
          have f51 := hP5.fr 3
          have S5 := Lib.hid (And.intro hP5 (And.intro hla hA5))
          clear hla hb5 hgA hP5 hA5 r41 S4 HC4
          go_upto_region 10 with fail
          obtain ⟨w6, hw6⟩ : ∃ x, x = w5.setCell ⟨g5, 3, none⟩ (.slice (some ⟨gA, 0, none⟩) nl (nl + 2)) := ⟨_, rfl⟩
          rw [← hw6]
          have hP6 := S5.out.1.seta (.slice (some ⟨gA, 0, none⟩) nl (nl + 2))
          rw [← hw6] at hP6
          have hla6 : LentI w6 gA ol := S5.out.2.1.block (by rw [hw6]; exact Below.heap_setCell _ _ _ _ (by have := S5.out.2.2; simp only []; omega))
          have hK6 := HK.out w6 hP6.below
          have r62 : w6.cell? ⟨g4, 4, none⟩ = some (.slice oq nm oe) := by rw [← HNL.out.2]; exact hP6.ov
          have hc6 := lentI_any oq oe om w6 hK6.v hK6.lv
          unfold LentPostI at hc6
          rw [show om.length = nm from HNL.out.2] at hc6
          have S6 := Lib.hid (And.intro hP6 (And.intro hla6 (And.intro hc6 S5.out.2.2)))
          clear hw6 hP6 hK6 hla6 r51 f51 S5 hc6
          go_wp2_with fail
          refine S6.out.2.2.1.mono ?_
          rintro e w7 ⟨rfl, hlb, hb7⟩
          obtain ⟨gB, hgB⟩ : ∃ g, w6.heap.size = g := ⟨_, rfl⟩
          rw [hgB] at hlb ⊢
          have hP7 := S6.out.1.next hb7
          have hla7 := S6.out.2.1.below hb7
          have hB5 : g5 < gB := by rw [← hgB]; exact heap_ltN S6.out.1.pb
          have r72 : w7.cell? ⟨g5, 4, none⟩ = some (.slice oq nm oe) := by rw [← HNL.out.2]; exact hP7.pv
          have f72 := hP7.fr 4
          have S7 := Lib.hid (And.intro hP7 (And.intro hla7 (And.intro hlb (And.intro S6.out.2.2.2 hB5))))
          clear hla7 hlb hb7 hgB hP7 hB5 r62 S6
          go_upto_region 11 with fail
          obtain ⟨w8, hw8⟩ : ∃ x, x = w7.setCell ⟨g5, 4, none⟩ (.slice (some ⟨gB, 0, none⟩) nm (nm + 2)) := ⟨_, rfl⟩
          rw [← hw8]
          have hP8 := S7.out.1.setb (.slice (some ⟨gB, 0, none⟩) nm (nm + 2))
          rw [← hw8] at hP8
          have hla8 : LentI w8 gA ol := S7.out.2.1.block (by rw [hw8]; exact Below.heap_setCell _ _ _ _ (by have := S7.out.2.2.2.1; simp only []; omega))
          have hlb8 : LentI w8 gB om := S7.out.2.2.1.block (by rw [hw8]; exact Below.heap_setCell _ _ _ _ (by have := S7.out.2.2.2.2; simp only []; omega))
          have hK8 := HK.out w8 hP8.below
          have r83 : w8.cell? ⟨g4, 5, none⟩ = some (.slice or ln of) := by rw [← HLN.out]; exact hP8.oi
          have hc8 := lent_any or of ob w8 hK8.i (by have := HLN.out; omega)
          unfold LentPost at hc8
          rw [show ob.length = ln from HLN.out] at hc8
          have S8 := Lib.hid (And.intro hP8 (And.intro hla8 (And.intro hlb8 (And.intro hc8 S7.out.2.2.2))))
          clear hw8 hP8 hK8 hla8 hlb8 r72 f72 S7 hc8
          go_wp2_with fail
          refine S8.out.2.2.2.1.mono ?_
          rintro e w9 ⟨rfl, hlc, hb9⟩
          obtain ⟨gC, hgC⟩ : ∃ g, w8.heap.size = g := ⟨_, rfl⟩
          rw [hgC] at hlc ⊢
          have hP9 := S8.out.1.next hb9
          have hla9 := S8.out.2.1.below hb9
          have hlb9 := S8.out.2.2.1.below hb9
          have hC5 : g5 < gC := by rw [← hgC]; exact heap_ltN S8.out.1.pb
          have r93 : w9.cell? ⟨g5, 5, none⟩ = some (.slice or ln of) := by rw [← HLN.out]; exact hP9.pi
          have f93 := hP9.fr 5
          have S9 := Lib.hid (And.intro hP9 (And.intro hla9 (And.intro hlb9 (And.intro hlc (And.intro S8.out.2.2.2.2.1 (And.intro S8.out.2.2.2.2.2 hC5))))))
          clear hla9 hlb9 hlc hb9 hgC hP9 hC5 r83 S8
          go_upto_region 12 with fail
          obtain ⟨wa, hwa⟩ : ∃ x, x = w9.setCell ⟨g5, 5, none⟩ (.slice (some ⟨gC, 0, none⟩) ln (ln + 2)) := ⟨_, rfl⟩
          rw [← hwa]
          have hPa := S9.out.1.setc (.slice (some ⟨gC, 0, none⟩) ln (ln + 2))
          rw [← hwa] at hPa
          have hlaa : LentI wa gA ol := S9.out.2.1.block (by rw [hwa]; exact Below.heap_setCell _ _ _ _ (by have := S9.out.2.2.2.2.1; simp only []; omega))
          have hlba : LentI wa gB om := S9.out.2.2.1.block (by rw [hwa]; exact Below.heap_setCell _ _ _ _ (by have := S9.out.2.2.2.2.2.1; simp only []; omega))
          have hlca : LentB wa gC ob := S9.out.2.2.2.1.block (by rw [hwa]; exact Below.heap_setCell _ _ _ _ (by have := S9.out.2.2.2.2.2.2; simp only []; omega))
          have hKa := HK.out wa hPa.below
          have hKp : OkOw wa ⟨k, K, on, some ⟨gA, 0, none⟩, some ⟨gB, 0, none⟩, some ⟨gC, 0, none⟩, nl + 2, nm + 2, ln + 2, ol, om, ob, os⟩ := ⟨hlaa.vn (by rw [show ol.length = nl from HNL.out.1]) hKa.la, hlba.vn (by rw [show om.length = nm from HNL.out.2]) hKa.lv, hlca.vw HLN.out hKa.i.ok (by have := HLN.out; omega), hKa.la, hKa.lv, hKa.n, hKa.s⟩
          have hRa : Roots wa A ∧ TypeVar wa := by
            have hb : Below w.heap.size w wa := BR.out.trans (hPa.below.mono BR.out.size)
            exact ⟨HR.out.1.below hb, HR.out.2.below hb⟩
          have hplay := playsw_any ⟨k, K, on, some ⟨gA, 0, none⟩, some ⟨gB, 0, none⟩, some ⟨gC, 0, none⟩, nl + 2, nm + 2, ln + 2, ol, om, ob, os⟩ wa A hRa.1 hRa.2 hKp (by show ob.length ≤ 1000; have := HLN.out; omega)
          have hrow : Ow.row ⟨k, K, on, some ⟨gA, 0, none⟩, some ⟨gB, 0, none⟩, some ⟨gC, 0, none⟩, nl + 2, nm + 2, ln + 2, ol, om, ob, os⟩ = [.int .i64 k, .int .i64 K, .int .i64 on, .slice (some ⟨gA, 0, none⟩) nl (nl + 2), .slice (some ⟨gB, 0, none⟩) nm (nm + 2), .slice (some ⟨gC, 0, none⟩) ln (ln + 2), .string os] := by
            show [Value.int .i64 k, .int .i64 K, .int .i64 on, .slice (some ⟨gA, 0, none⟩) ol.length (nl + 2), .slice (some ⟨gB, 0, none⟩) om.length (nm + 2), .slice (some ⟨gC, 0, none⟩) ob.length (ln + 2), .string os] = _
            rw [show ol.length = nl from HNL.out.1, show om.length = nm from HNL.out.2, show ob.length = ln from HLN.out]
          rw [hrow] at hplay
          obtain ⟨ra0, ra1, ra2, ra3, ra4, ra5, ra6⟩ := hPa.row
          simp only [] at ra0 ra1 ra2 ra3 ra4 ra5 ra6
          have Sa := Lib.hid (And.intro hPa (And.intro hlaa (And.intro hlba (And.intro hlca hplay))))
          clear hwa hPa hlaa hlba hlca hKa hKp hRa hplay hrow S9 r93 f93
          go_wp2_with fail
          refine Sa.out.2.2.2.2.mono ?_
          rintro e wb ⟨rfl, hbb⟩
          have hPb := Sa.out.1.next hbb
          have hlab := Sa.out.2.1.below hbb
          have hlbb := Sa.out.2.2.1.below hbb
          have hlcb := Sa.out.2.2.2.1.below hbb
          have hKb := HK.out wb hPb.below
          have rb1 : wb.cell? ⟨g5, 3, none⟩ = _ := hPb.pa
          have rb2 : wb.cell? ⟨g4, 3, none⟩ = some (.slice op nl oc) := by rw [← HNL.out.1]; exact hPb.oa
          have hkb := keptI_any gA op nl (nl + 2) oc ol wb hlab hKb.a hKb.la HNL.out.1.symm (by rw [show ol.length = nl from HNL.out.1])
          rw [show ol.length = nl from HNL.out.1] at hkb
          have Sb := Lib.hid (And.intro hPb (And.intro hlbb (And.intro hlcb hkb)))
          clear hPb hlab hlbb hlcb hKb hkb hbb Sa ra0 ra1 ra2 ra3 ra4 ra5 ra6
          go_wp2_with fail
          refine Sb.out.2.2.2.mono ?_
          rintro e wc ⟨rfl, hbc⟩
          have hPc := Sb.out.1.next hbc
          have hlbc := Sb.out.2.1.below hbc
          have hlcc := Sb.out.2.2.1.below hbc
          have hKc := HK.out wc hPc.below
          have rc1 : wc.cell? ⟨g5, 4, none⟩ = _ := hPc.pv
          have rc2 : wc.cell? ⟨g4, 4, none⟩ = some (.slice oq nm oe) := by rw [← HNL.out.2]; exact hPc.ov
          have hkc := keptI_any gB oq nm (nm + 2) oe om wc hlbc hKc.v hKc.lv HNL.out.2.symm (by rw [show om.length = nm from HNL.out.2])
          rw [show om.length = nm from HNL.out.2] at hkc
          have Sc := Lib.hid (And.intro hPc (And.intro hlcc hkc))
          clear hPc hlbc hlcc hKc hkc hbc Sb rb1 rb2
          go_wp2_with fail
          refine Sc.out.2.2.mono ?_
          rintro e wd ⟨rfl, hbd⟩
          have hPd := Sc.out.1.next hbd
          have hlcd := Sc.out.2.1.below hbd
          have hKd := HK.out wd hPd.below
          have rd1 : wd.cell? ⟨g5, 5, none⟩ = _ := hPd.pi
          have rd2 : wd.cell? ⟨g4, 5, none⟩ = some (.slice or ln of) := by rw [← HLN.out]; exact hPd.oi
          have hkd := kept_any gC or ln (ln + 2) of ob wd hlcd hKd.i (by have := HLN.out; omega) HLN.out.symm (by rw [show ob.length = ln from HLN.out])
          rw [show ob.length = ln from HLN.out] at hkd
          have Sd := Lib.hid (And.intro hPd hkd)
          clear hPd hlcd hKd hkd hbd Sc rc1 rc2
          go_wp2_with fail
          refine Sd.out.2.mono ?_
          rintro e we ⟨rfl, hbe⟩
          have HY := Lib.hid (BR.out.trans ((Sd.out.1.next hbe).below.mono BR.out.size))
          clear hbe Sd rd1 rd2
          go_wp2_with fail
          go_roundw
          case rel => exact ⟨i + 1, by omega, by go_num, HY.out⟩
          case measure => simp [intOf]; omega
      · go_wp2_with fail
        go_ret
        exact ⟨rfl, BR.out⟩
    · go_wp2_with fail
      go_ret
      exact ⟨rfl, BR.out⟩
end Go.Proofs.YtfgoflaeclfggaaGreatDoor
