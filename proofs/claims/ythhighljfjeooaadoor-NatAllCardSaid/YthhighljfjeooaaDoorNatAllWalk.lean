/- NatAll: its walk: whatever the ops, it answers true and old memory stays. -/
import Derived.Test.YthhighljfjeooaaDoorLawOpz
import Derived.Test.YthhighljfjeooaaDoorLentNat
import Derived.Test.YthhighljfjeooaaDoorNatI
import Derived.Outline
import Derived.BigQuiet
import Derived.Deep.RegionHeld3
import Derived.Deep.DrawnRows
namespace Go.Proofs.YthhighljfjeooaaDoor
open Go.RowKit Go.Extern.Stop Go.Stop Go.Extern NatM

attribute [local go_sem ↓] Go.wp_at_zero Go.wp_at_succ

/-- The two ops of a round: the one of the list (block g4) and its copy (block g5). -/
structure Ap (w wx : World) (o : Od) (g4 g5 : Nat) (a b : Value) : Prop where
  below : Below w.heap.size w wx
  ob : wx.heap[g4]? = some (.cells o.row.toArray 30 (0, 0))
  pb : wx.heap[g5]? = some (.cells #[.int .i64 o.k, a, b, .int .u64 (o.x : Int), .int .u32 (o.d : Int), .int .i64 o.n, .string o.s, .slice o.r o.K.length o.cr] 30 (0, 0))
  h4 : w.heap.size ≤ g4
  h5 : w.heap.size ≤ g5
  ne : g4 ≠ g5
section
variable {w wx w' : World} {o : Od} {g4 g5 : Nat} {a b : Value}
theorem Ap.next (h : Ap w wx o g4 g5 a b) (hb : Below wx.heap.size wx w') : Ap w w' o g4 g5 a b :=
  ⟨h.below.trans (hb.mono h.below.size), (hb.block g4 (heap_ltN h.ob)).trans h.ob, (hb.block g5 (heap_ltN h.pb)).trans h.pb, h.h4, h.h5, h.ne⟩
theorem Ap.seta (h : Ap w wx o g4 g5 a b) (v : Value) : Ap w (wx.setCell ⟨g5, 1, none⟩ v) o g4 g5 v b :=
  ⟨h.below.setCell (p := ⟨g5, 1, none⟩) h.h5 _, (Below.heap_setCell wx ⟨g5, 1, none⟩ v g4 h.ne).trans h.ob, by rw [heap_setCell_same _ g5 1 _ _ _ h.pb]; rfl, h.h4, h.h5, h.ne⟩
theorem Ap.setb (h : Ap w wx o g4 g5 a b) (v : Value) : Ap w (wx.setCell ⟨g5, 2, none⟩ v) o g4 g5 a v :=
  ⟨h.below.setCell (p := ⟨g5, 2, none⟩) h.h5 _, (Below.heap_setCell wx ⟨g5, 2, none⟩ v g4 h.ne).trans h.ob, by rw [heap_setCell_same _ g5 2 _ _ _ h.pb]; rfl, h.h4, h.h5, h.ne⟩
theorem Ap.oa (h : Ap w wx o g4 g5 a b) : wx.cell? ⟨g4, 1, none⟩ = some (.slice o.p o.l.length o.c) := (cell_of_row wx g4 1 _ _ _ h.ob).trans rfl
theorem Ap.ob' (h : Ap w wx o g4 g5 a b) : wx.cell? ⟨g4, 2, none⟩ = some (.slice o.q o.m.length o.e) := (cell_of_row wx g4 2 _ _ _ h.ob).trans rfl
theorem Ap.pa (h : Ap w wx o g4 g5 a b) : wx.cell? ⟨g5, 1, none⟩ = some a := (cell_of_row wx g5 1 _ _ _ h.pb).trans rfl
theorem Ap.pb' (h : Ap w wx o g4 g5 a b) : wx.cell? ⟨g5, 2, none⟩ = some b := (cell_of_row wx g5 2 _ _ _ h.pb).trans rfl
theorem Ap.row (h : Ap w wx o g4 g5 a b) : wx.cell? ⟨g5, 0, none⟩ = some (.int .i64 o.k) ∧ wx.cell? ⟨g5, 1, none⟩ = some a ∧ wx.cell? ⟨g5, 2, none⟩ = some b ∧ wx.cell? ⟨g5, 3, none⟩ = some (.int .u64 (o.x : Int)) ∧ wx.cell? ⟨g5, 4, none⟩ = some (.int .u32 (o.d : Int)) ∧ wx.cell? ⟨g5, 5, none⟩ = some (.int .i64 o.n) ∧ wx.cell? ⟨g5, 6, none⟩ = some (.string o.s) ∧ wx.cell? ⟨g5, 7, none⟩ = some (.slice o.r o.K.length o.cr) :=
  ⟨(cell_of_row wx g5 0 _ _ _ h.pb).trans rfl, (cell_of_row wx g5 1 _ _ _ h.pb).trans rfl, (cell_of_row wx g5 2 _ _ _ h.pb).trans rfl, (cell_of_row wx g5 3 _ _ _ h.pb).trans rfl, (cell_of_row wx g5 4 _ _ _ h.pb).trans rfl, (cell_of_row wx g5 5 _ _ _ h.pb).trans rfl, (cell_of_row wx g5 6 _ _ _ h.pb).trans rfl, (cell_of_row wx g5 7 _ _ _ h.pb).trans rfl⟩
theorem Ap.fr (h : Ap w wx o g4 g5 a b) (j : Nat) : wx.frozen? ⟨g5, j, none⟩ = false := frozen_of_row wx g5 j _ _ h.pb
end
theorem row8 {wx : World} {g : Nat} {o : Od} (h : wx.heap[g]? = some (.cells o.row.toArray 30 (0, 0))) : wx.cell? ⟨g, 0, none⟩ = some (.int .i64 o.k) ∧ wx.cell? ⟨g, 1, none⟩ = some (.slice o.p o.l.length o.c) ∧ wx.cell? ⟨g, 2, none⟩ = some (.slice o.q o.m.length o.e) ∧ wx.cell? ⟨g, 3, none⟩ = some (.int .u64 (o.x : Int)) ∧ wx.cell? ⟨g, 4, none⟩ = some (.int .u32 (o.d : Int)) ∧ wx.cell? ⟨g, 5, none⟩ = some (.int .i64 o.n) ∧ wx.cell? ⟨g, 6, none⟩ = some (.string o.s) ∧ wx.cell? ⟨g, 7, none⟩ = some (.slice o.r o.K.length o.cr) :=
  ⟨(cell_of_row wx g 0 _ _ _ h).trans rfl, (cell_of_row wx g 1 _ _ _ h).trans rfl, (cell_of_row wx g 2 _ _ _ h).trans rfl, (cell_of_row wx g 3 _ _ _ h).trans rfl, (cell_of_row wx g 4 _ _ _ h).trans rfl, (cell_of_row wx g 5 _ _ _ h).trans rfl, (cell_of_row wx g 6 _ _ _ h).trans rfl, (cell_of_row wx g 7 _ _ _ h).trans rfl⟩
theorem longB_not {L : List Nt} (h : longB L = false) : ∀ x : Nt, x ∈ L → x.2.2.length ≤ 400 := fun x hx => by
  unfold longB at h
  have := List.any_eq_false.1 h x hx
  simpa using this

theorem LentB.vq {w : World} {g n : Nat} {l : List Nat} (h : LentB w g l) (hn : l.length = n) (ok : ok32 l) (hl : l.length ≤ 100000) : NatV w.heap.size w (some ⟨g, 0, none⟩) (n + 2) l := by
  subst hn
  exact (LentB.own (base := 0) (Nat.zero_le _) ok hl h).toV
def AllRel (w : World) (n : Nat) (v : Value) (wr : World) : Prop := ∃ i : Nat, i ≤ n ∧ v = .int .i64 (i : Int) ∧ Below w.heap.size w wr

set_option maxRecDepth 100000 in
set_option maxHeartbeats 16000000 in
theorem natall_any (p : Option Addr) (n cap : Nat) (nd : Nat → Od) (w : World) (A : Nat → Addr) (hr : Roots w A) (hT : TypeVar w) (hO : Ops w p n cap nd) :
    Calls Tryd.prog 3 #[.slice p n cap] w (Tells (.bool true) w) := by
  have HO := Lib.hid hO
  have HR := Lib.hid (And.intro hr hT)
  have hnc := hO.1
  clear hO hr hT
  go_enter Tryd.func3, Tryd.ntmps3
  go_wp2_with fail
  refine (awake_any _).mono ?_
  rintro e w1 ⟨rfl, hb1⟩
  have B1 := Lib.hid hb1
  clear hb1
  go_wp2_with fail
  go_loopw [3] (fun v wr => AllRel w n v wr) (fun v _ => n - (intOf v).toNat)
  case atStart => exact ⟨0, Nat.zero_le _, rfl, B1.out⟩
  case round =>
    obtain ⟨i, hi, rfl, hbr⟩ := hrel
    have BR := Lib.hid hbr
    clear hbr
    by_cases hlt : i < n
    · by_cases h40 : i < 40
      · obtain ⟨b, off, hp, hbl, hcl, hok⟩ := HO.out.2 i hlt
        subst hp
        obtain ⟨o, ho⟩ : ∃ o, nd i = o := ⟨_, rfl⟩
        rw [ho] at hcl hok
        obtain ⟨k, op, oq, or, oc, oe, ocr, ol, om, ox, od, on, os, oK⟩ := o
        have hcw : ∀ (j : Nat) (z : Value), (Od.row ⟨k, op, oq, or, oc, oe, ocr, ol, om, ox, od, on, os, oK⟩)[j]? = some z → wr.cell? ⟨b, off + i * 8 + j, none⟩ = some z := fun j z hz => (BR.out.cell (p := ⟨b, off + i * 8 + j, none⟩) hbl).trans (hcl j z hz)
        have c0 : wr.cell? ⟨b, off + i * 8, none⟩ = some (.int .i64 k) := hcw 0 _ rfl
        have c1 : wr.cell? ⟨b, off + i * 8 + 1, none⟩ = some (.slice op ol.length oc) := hcw 1 _ rfl
        have c2 : wr.cell? ⟨b, off + i * 8 + 2, none⟩ = some (.slice oq om.length oe) := hcw 2 _ rfl
        have c3 : wr.cell? ⟨b, off + i * 8 + 3, none⟩ = some (.int .u64 (ox : Int)) := hcw 3 _ rfl
        have c4 : wr.cell? ⟨b, off + i * 8 + 4, none⟩ = some (.int .u32 (od : Int)) := hcw 4 _ rfl
        have c5 : wr.cell? ⟨b, off + i * 8 + 5, none⟩ = some (.int .i64 on) := hcw 5 _ rfl
        have c6 : wr.cell? ⟨b, off + i * 8 + 6, none⟩ = some (.string os) := hcw 6 _ rfl
        have c7 : wr.cell? ⟨b, off + i * 8 + 7, none⟩ = some (.slice or oK.length ocr) := hcw 7 _ rfl
        have hok' : OkOp wr ⟨k, op, oq, or, oc, oe, ocr, ol, om, ox, od, on, os, oK⟩ := hok.next BR.out
        have HK := Lib.hid hok'
        clear hcl hok hcw hok' ho
        go_upto_region 7 with fail
        obtain ⟨wA, hwA⟩ : ∃ x, x = wr.alloc (.cells #[.int .i64 k, .slice op ol.length oc, .slice oq om.length oe, .int .u64 (ox : Int), .int .u32 (od : Int), .int .i64 on, .string os, .slice or oK.length ocr] 30) := ⟨_, rfl⟩
        rw [← hwA]
        have hbA : Below wr.heap.size wr wA := by rw [hwA]; exact (Below.refl _ _).alloc (Nat.le_refl _) _
        have hoA : wA.heap[wr.heap.size]? = some (.cells (Od.row ⟨k, op, oq, or, oc, oe, ocr, ol, om, ox, od, on, os, oK⟩).toArray 30 (0, 0)) := by rw [hwA]; exact heap_newN wr _
        have hKA := HK.out.next hbA
        obtain ⟨g4, hg4⟩ : ∃ g, wr.heap.size = g := ⟨_, rfl⟩
        rw [hg4] at hoA ⊢
        obtain ⟨_, hr1, hr2, _, _, _, _, hr7⟩ := row8 hoA
        simp only [] at hr1 hr2 hr7
        have HA := Lib.hid (And.intro hbA (And.intro hoA (And.intro hKA hg4)))
        clear hwA hbA hoA hKA hg4 c0 c1 c2 c3 c4 c5 c6 c7 hr7
        obtain ⟨lb, hlb⟩ : ∃ lb, longB [(op, oc, ol), (oq, oe, om)] = lb := ⟨_, rfl⟩
        obtain ⟨lc, hlc⟩ : ∃ lc, longB oK = lc := ⟨_, rfl⟩
        have HL := Lib.hid (And.intro hlb hlc)
        clear hlb hlc
        go_wp2_with fail
        have hbB : Below wA.heap.size wA (wA.alloc (.cells #[.slice op ol.length oc, .slice oq om.length oe] 25)) := (Below.refl _ _).alloc (Nat.le_refl _) _
        refine (long_any _ 2 2 [(op, oc, ol), (oq, oe, om)] _ rfl (NatsV.laid (w := wA) [(op, oc, ol), (oq, oe, om)] #[.slice op ol.length oc, .slice oq om.length oe] 25 rfl (by simp) (fun x hx => by
          simp only [List.mem_cons, List.not_mem_nil, or_false] at hx
          rcases hx with rfl | rfl
          · exact HA.out.2.2.1.a
          · exact HA.out.2.2.1.b))).mono ?_
        rintro e w2 ⟨rfl, hb2⟩
        have hb2' := hbB.trans (hb2.mono hbB.size)
        rw [HL.out.1]
        have ho2 := (hb2'.block g4 (heap_ltN HA.out.2.1)).trans HA.out.2.1
        obtain ⟨_, _, _, _, _, _, _, hq7⟩ := row8 ho2
        simp only [] at hq7
        have H2 := Lib.hid (And.intro hb2' ho2)
        clear hb2 hb2' ho2 hr1 hr2 hbB
        cases lb with
        | true =>
          go_wp2_with fail
          go_roundw
          case rel => exact ⟨i + 1, by omega, by go_num, (BR.out.trans (HA.out.1.mono BR.out.size)).trans (H2.out.1.mono (Nat.le_trans BR.out.size HA.out.1.size))⟩
          case measure => simp [intOf]; omega
        | false =>
          go_wp2_with fail
          refine (long_any or oK.length ocr oK _ rfl (HA.out.2.2.1.L.nx H2.out.1)).mono ?_
          rintro e w3 ⟨rfl, hb3⟩
          rw [HL.out.2]
          have ho3 := (hb3.block g4 (heap_ltN H2.out.2)).trans H2.out.2
          obtain ⟨hd0, hd1, hd2, hd3, hd4, hd5, hd6, hd7⟩ := row8 ho3
          simp only [] at hd0 hd1 hd2 hd3 hd4 hd5 hd6 hd7
          have hbr3 : Below wr.heap.size wr w3 := (HA.out.1.trans (H2.out.1.mono HA.out.1.size)).trans (hb3.mono (Nat.le_trans HA.out.1.size H2.out.1.size))
          have H3 := Lib.hid (And.intro hbr3 ho3)
          clear hb3 ho3 hq7 hbr3
          cases lc with
          | true =>
            go_wp2_with fail
            go_roundw
            case rel => exact ⟨i + 1, by omega, by go_num, BR.out.trans (H3.out.1.mono BR.out.size)⟩
            case measure => simp [intOf]; omega
          | false =>
            by_cases hKl : 40 < oK.length
            · go_wp2_with fail
              go_roundw
              case rel => exact ⟨i + 1, by omega, by go_num, BR.out.trans (H3.out.1.mono BR.out.size)⟩
              case measure => simp [intOf]; omega
            · go_upto_region 9 with fail
              obtain ⟨w4, hw4⟩ : ∃ x, x = w3.alloc (.cells #[.int .i64 k, .slice op ol.length oc, .slice oq om.length oe, .int .u64 (ox : Int), .int .u32 (od : Int), .int .i64 on, .string os, .slice or oK.length ocr] 30) := ⟨_, rfl⟩
              rw [← hw4]
              have h34 : wr.heap.size ≤ w3.heap.size := H3.out.1.size
              have hg43 := heap_ltN H3.out.2
              obtain ⟨g5, hg5⟩ : ∃ g, w3.heap.size = g := ⟨_, rfl⟩
              have hP4 : Ap wr w4 ⟨k, op, oq, or, oc, oe, ocr, ol, om, ox, od, on, os, oK⟩ g4 g5 (.slice op ol.length oc) (.slice oq om.length oe) := by
                have hb34 : Below w3.heap.size w3 w4 := by rw [hw4]; exact (Below.refl _ _).alloc (Nat.le_refl _) _
                refine ⟨H3.out.1.trans (hb34.mono h34), (hb34.block g4 hg43).trans H3.out.2, by rw [hw4, ← hg5]; exact heap_newN w3 _, by rw [HA.out.2.2.2]; exact Nat.le_refl _, by omega, by omega⟩
              rw [hg5]
              have hK4 : OkOp w4 ⟨k, op, oq, or, oc, oe, ocr, ol, om, ox, od, on, os, oK⟩ := HK.out.next hP4.below
              have hlen := longB_not HL.out.1
              have hl1 : ol.length ≤ 400 := hlen (op, oc, ol) (by simp)
              have hl2 : om.length ≤ 400 := hlen (oq, oe, om) (by simp)
              have HLK := Lib.hid (longB_not HL.out.2)
              have r41 : w4.cell? ⟨g4, 1, none⟩ = some (.slice op ol.length oc) := hP4.oa
              have S4 := Lib.hid (And.intro hP4 hK4)
              clear hw4 h34 hg43 hg5 hP4 hK4 hlen HL H3 H2 HA hd0 hd1 hd2 hd3 hd4 hd5 hd6 hd7
              go_wp2_with fail
              refine (lent_any op oc ol _ S4.out.2.a (by omega)).mono ?_
              rintro e w5 ⟨rfl, hla, hb5⟩
              obtain ⟨gA, hgA⟩ : ∃ g, w4.heap.size = g := ⟨_, rfl⟩
              rw [hgA] at hla ⊢
              have hP5 := S4.out.1.next hb5
              have hK5 := S4.out.2.next hb5
              have hA5 : g5 < gA := by rw [← hgA]; exact heap_ltN S4.out.1.pb
              have hA4 : g4 < gA := by rw [← hgA]; exact heap_ltN S4.out.1.ob
              have S5 := Lib.hid (And.intro hP5 (And.intro hK5 (And.intro hla (And.intro hA5 hA4))))
              have r51 : w5.cell? ⟨g5, 1, none⟩ = some (.slice op ol.length oc) := hP5.pa
              have f51 := hP5.fr 1
              clear hla hb5 hgA hP5 hK5 hA5 hA4 r41 S4
              go_upto_region 10 with fail
              obtain ⟨w6, hw6⟩ : ∃ x, x = w5.setCell ⟨g5, 1, none⟩ (.slice (some ⟨gA, 0, none⟩) ol.length (ol.length + 2)) := ⟨_, rfl⟩
              rw [← hw6]
              have hP6 := S5.out.1.seta (.slice (some ⟨gA, 0, none⟩) ol.length (ol.length + 2))
              rw [← hw6] at hP6
              have hla6 : LentB w6 gA ol := S5.out.2.2.1.block (by rw [hw6]; exact Below.heap_setCell _ _ _ _ (by have := S5.out.2.2.2.1; simp only []; omega))
              have hK6 : OkOp w6 ⟨k, op, oq, or, oc, oe, ocr, ol, om, ox, od, on, os, oK⟩ := HK.out.next hP6.below
              have r62 : w6.cell? ⟨g4, 2, none⟩ = some (.slice oq om.length oe) := hP6.ob'
              have S6 := Lib.hid (And.intro hP6 (And.intro hK6 hla6))
              clear hw6 hP6 hK6 hla6 r51 f51 S5
              go_wp2_with fail
              refine (lent_any oq oe om _ S6.out.2.1.b (by omega)).mono ?_
              rintro e w7 ⟨rfl, hlb, hb7⟩
              obtain ⟨gB, hgB⟩ : ∃ g, w6.heap.size = g := ⟨_, rfl⟩
              rw [hgB] at hlb ⊢
              have hP7 := S6.out.1.next hb7
              have hla7 := S6.out.2.2.below hb7
              have hB5 : g5 < gB := by rw [← hgB]; exact heap_ltN S6.out.1.pb
              have hA5 : gA ≠ g5 := fun e => by
                have h1 := S6.out.2.2
                unfold LentB at h1
                rw [e, S6.out.1.pb] at h1
                simp at h1
              have r72 : w7.cell? ⟨g5, 2, none⟩ = some (.slice oq om.length oe) := hP7.pb'
              have f72 := hP7.fr 2
              have S7 := Lib.hid (And.intro hP7 (And.intro hla7 (And.intro hlb (And.intro hA5 hB5))))
              clear hla7 hlb hb7 hgB hP7 hB5 hA5 r62 S6
              go_upto_region 11 with fail
              obtain ⟨w8, hw8⟩ : ∃ x, x = w7.setCell ⟨g5, 2, none⟩ (.slice (some ⟨gB, 0, none⟩) om.length (om.length + 2)) := ⟨_, rfl⟩
              rw [← hw8]
              have hP8 := S7.out.1.setb (.slice (some ⟨gB, 0, none⟩) om.length (om.length + 2))
              rw [← hw8] at hP8
              have hla8 : LentB w8 gA ol := S7.out.2.1.block (by rw [hw8]; exact Below.heap_setCell _ _ _ _ S7.out.2.2.2.1)
              have hlb8 : LentB w8 gB om := S7.out.2.2.1.block (by rw [hw8]; exact Below.heap_setCell _ _ _ _ (by have := S7.out.2.2.2.2; simp only []; omega))
              have hK8 : OkOp w8 ⟨k, op, oq, or, oc, oe, ocr, ol, om, ox, od, on, os, oK⟩ := HK.out.next hP8.below
              have hK8' : OkOp w8 ⟨k, some ⟨gA, 0, none⟩, some ⟨gB, 0, none⟩, or, ol.length + 2, om.length + 2, ocr, ol, om, ox, od, on, os, oK⟩ := ⟨hla8.vq rfl hK8.a.ok (by omega), hlb8.vq rfl hK8.b.ok (by omega), hK8.L, hK8.x, hK8.d⟩
              have hR8 : Roots w8 A ∧ TypeVar w8 := by
                have hb : Below w.heap.size w w8 := BR.out.trans (hP8.below.mono BR.out.size)
                exact ⟨HR.out.1.below hb, HR.out.2.below hb⟩
              obtain ⟨r80, r81, r82, r83, r84, r85, r86, r87⟩ := hP8.row
              simp only [] at r80 r81 r82 r83 r84 r85 r86 r87
              have S8 := Lib.hid (And.intro hP8 (And.intro hK8 (And.intro hla8 (And.intro hlb8 (And.intro hK8' hR8)))))
              clear hw8 hP8 hla8 hlb8 hK8 hK8' hR8 S7 r72 f72
              go_wp2_with fail
              refine (plays_any ⟨k, some ⟨gA, 0, none⟩, some ⟨gB, 0, none⟩, or, ol.length + 2, om.length + 2, ocr, ol, om, ox, od, on, os, oK⟩ w8 A S8.out.2.2.2.2.2.1 S8.out.2.2.2.2.2.2 S8.out.2.2.2.2.1 (by simp only []; omega) (by simp only []; omega) (by simp only []; omega) (fun x hx => Nat.le_trans (HLK.out x hx) (by omega))).mono ?_
              rintro e w9 ⟨rfl, hb9⟩
              have hP9 := S8.out.1.next hb9
              have hla9 := S8.out.2.2.1.below hb9
              have hlb9 := S8.out.2.2.2.1.below hb9
              have hK9 : OkOp w9 ⟨k, op, oq, or, oc, oe, ocr, ol, om, ox, od, on, os, oK⟩ := HK.out.next hP9.below
              have r9a : w9.cell? ⟨g5, 1, none⟩ = _ := hP9.pa
              have r9b : w9.cell? ⟨g4, 1, none⟩ = some (.slice op ol.length oc) := hP9.oa
              have S9 := Lib.hid (And.intro hP9 (And.intro hK9 (And.intro hla9 hlb9)))
              clear hP9 hK9 hla9 hlb9 hb9 S8 r80 r81 r82 r83 r84 r85 r86 r87 HLK
              go_wp2_with fail
              refine (kept_any gA op _ _ oc ol w9 S9.out.2.2.1 S9.out.2.1.a (by omega) rfl rfl).mono ?_
              rintro e w10 ⟨rfl, hb10⟩
              have hPa := S9.out.1.next hb10
              have hlaa := S9.out.2.2.1.below hb10
              have hlba := S9.out.2.2.2.below hb10
              have hKa : OkOp w10 ⟨k, op, oq, or, oc, oe, ocr, ol, om, ox, od, on, os, oK⟩ := HK.out.next hPa.below
              have raa : w10.cell? ⟨g5, 2, none⟩ = _ := hPa.pb'
              have rab : w10.cell? ⟨g4, 2, none⟩ = some (.slice oq om.length oe) := hPa.ob'
              have Sa := Lib.hid (And.intro hPa (And.intro hKa (And.intro hlaa hlba)))
              clear hPa hKa hlaa hlba hb10 S9 r9a r9b
              go_wp2_with fail
              refine (kept_any gB oq _ _ oe om w10 Sa.out.2.2.2 Sa.out.2.1.b (by omega) rfl rfl).mono ?_
              rintro e w0 ⟨rfl, hb11⟩
              have hPb := Sa.out.1.next hb11
              have hlab := Sa.out.2.2.1.below hb11
              have hlbb := Sa.out.2.2.2.below hb11
              have hKb : OkOp w0 ⟨k, op, oq, or, oc, oe, ocr, ol, om, ox, od, on, os, oK⟩ := HK.out.next hPb.below
              have Sb := Lib.hid (And.intro hPb (And.intro hKb (And.intro (hlab.vq rfl hKb.a.ok (by omega)) (hlbb.vq rfl hKb.b.ok (by omega)))))
              clear hPb hKb hlab hlbb hb11 Sa raa rab
              go_upto_region 13 with fail
              have hx : ∀ wx : World, Below w0.heap.size w0 wx → wx.cell? ⟨g5, 1, none⟩ = some (.slice (some ⟨gA, 0, none⟩) ol.length (ol.length + 2)) ∧ wx.cell? ⟨g5, 2, none⟩ = some (.slice (some ⟨gB, 0, none⟩) om.length (om.length + 2)) ∧ wx.cell? ⟨g4, 1, none⟩ = some (.slice op ol.length oc) ∧ wx.cell? ⟨g4, 2, none⟩ = some (.slice oq om.length oe) := fun wx hb => ⟨(Sb.out.1.next hb).pa, (Sb.out.1.next hb).pb', (Sb.out.1.next hb).oa, (Sb.out.1.next hb).ob'⟩
              have hd0 : Below w0.heap.size w0 w0.drew := (Below.refl _ _).drew
              obtain ⟨N1, hN1⟩ : ∃ N, lowN (V32 ol) = N := ⟨_, rfl⟩
              obtain ⟨F1, hF1⟩ : ∃ N, fitsB (V32 ol) = N := ⟨_, rfl⟩
              obtain ⟨C1, hC1⟩ : ∃ N, cmpN (V32 ol) (V32 om) = N := ⟨_, rfl⟩
              obtain ⟨T1, hT1⟩ : ∃ N, bits2 (V32 ol) = N := ⟨_, rfl⟩
              have hf1 : ∀ wx : World, Below w0.heap.size w0 wx → Calls Tryd.prog 15 #[.slice (some ⟨gA, 0, none⟩) ol.length (ol.length + 2)] wx (Tells (.int .u64 (N1 : Int)) wx) := fun wx hb => by
                rw [← hN1]; exact low_any _ _ ol wx (Sb.out.2.2.1.next hb)
              have hf2 : ∀ wx : World, Below w0.heap.size w0 wx → Calls Tryd.prog 16 #[.slice op ol.length oc] wx (Tells (.int .u64 (N1 : Int)) wx) := fun wx hb => by
                rw [← hN1]; exact low_ref _ _ ol wx (Sb.out.2.1.a.next hb) (by omega)
              have hf3 : ∀ wx : World, Below w0.heap.size w0 wx → Calls Tryd.prog 17 #[.slice (some ⟨gA, 0, none⟩) ol.length (ol.length + 2)] wx (Tells (.bool F1) wx) := fun wx hb => by
                rw [← hF1]; exact fits_any _ _ ol wx (Sb.out.2.2.1.next hb)
              have hf4 : ∀ wx : World, Below w0.heap.size w0 wx → Calls Tryd.prog 18 #[.slice op ol.length oc] wx (Tells (.bool F1) wx) := fun wx hb => by
                rw [← hF1]; exact fits_ref _ _ ol wx (Sb.out.2.1.a.next hb) (by omega)
              have hf5 : ∀ wx : World, Below w0.heap.size w0 wx → Calls Tryd.prog 19 #[.slice (some ⟨gA, 0, none⟩) ol.length (ol.length + 2), .slice (some ⟨gB, 0, none⟩) om.length (om.length + 2)] wx (Tells (.int .i64 C1) wx) := fun wx hb => by
                rw [← hC1]; exact cmp_any _ _ _ _ ol om wx (Sb.out.2.2.1.next hb) (Sb.out.2.2.2.next hb)
              have hf6 : ∀ wx : World, Below w0.heap.size w0 wx → Calls Tryd.prog 20 #[.slice op ol.length oc, .slice oq om.length oe] wx (Tells (.int .i64 C1) wx) := fun wx hb => by
                rw [← hC1]; exact cmp_ref _ _ _ _ ol om wx (Sb.out.2.1.a.next hb) (Sb.out.2.1.b.next hb) (by omega) (by omega)
              have hf7 : ∀ wx : World, Below w0.heap.size w0 wx → Calls Tryd.prog 21 #[.slice (some ⟨gA, 0, none⟩) ol.length (ol.length + 2)] wx (Tells (.int .i64 (T1 : Int)) wx) := fun wx hb => by
                rw [← hT1]; exact bits_any _ _ ol wx (Sb.out.2.2.1.next hb) (by omega)
              have hf8 : ∀ wx : World, Below w0.heap.size w0 wx → Calls Tryd.prog 22 #[.slice op ol.length oc] wx (Tells (.int .i64 (T1 : Int)) wx) := fun wx hb => by
                rw [← hT1]; exact bits_ref _ _ ol wx (Sb.out.2.1.a.next hb) (by omega)
              have HZ := Lib.hid (And.intro (BR.out.trans (Sb.out.1.below.mono BR.out.size)) (Nat.le_trans BR.out.size Sb.out.1.below.size))
              have h1 := (hx w0 (Below.refl _ _)).1
              have h2 := (hx w0 (Below.refl _ _)).2.1
              have h3 := (hx w0 (Below.refl _ _)).2.2.1
              have h4 := (hx w0 (Below.refl _ _)).2.2.2
              clear hN1 hF1 hC1 hT1 Sb HK
              go_region_held3 (fun w' => w'.cell? ⟨g5, 1, none⟩ = some (.slice (some ⟨gA, 0, none⟩) ol.length (ol.length + 2)) ∧ w'.cell? ⟨g5, 2, none⟩ = some (.slice (some ⟨gB, 0, none⟩) om.length (om.length + 2)) ∧ w'.cell? ⟨g4, 1, none⟩ = some (.slice op ol.length oc) ∧ w'.cell? ⟨g4, 2, none⟩ = some (.slice oq om.length oe)) (first | exact hx _ (by assumption) | exact hx _ (Below.refl _ _) | exact hx _ hd0 | go_keep) (first
                | (go_at_call 15; refine (hf1 _ (by first | assumption | exact Below.refl _ _)).mono ?_; rintro e wa ⟨rfl, hba⟩; have hBa : Below w0.heap.size w0 wa := (by first | exact hba | exact hd0.trans (hba.mono hd0.size)))
                | (go_at_call 16; refine (hf2 _ (by first | assumption)).mono ?_; rintro e wb ⟨rfl, hbb⟩; have hBb : Below w0.heap.size w0 wb := hBa.trans (hbb.mono hBa.size))
                | (go_at_call 17; refine (hf3 _ (by first | assumption)).mono ?_; rintro e wc ⟨rfl, hbc⟩; have hBc : Below w0.heap.size w0 wc := hBb.trans (hbc.mono hBb.size))
                | (go_at_call 18; refine (hf4 _ (by first | assumption)).mono ?_; rintro e wd ⟨rfl, hbd⟩; have hBd : Below w0.heap.size w0 wd := hBc.trans (hbd.mono hBc.size))
                | (go_at_call 19; refine (hf5 _ (by first | assumption)).mono ?_; rintro e we ⟨rfl, hbe⟩; have hBe : Below w0.heap.size w0 we := hBd.trans (hbe.mono hBd.size))
                | (go_at_call 20; refine (hf6 _ (by first | assumption)).mono ?_; rintro e wf ⟨rfl, hbf⟩; have hBf : Below w0.heap.size w0 wf := hBe.trans (hbf.mono hBe.size))
                | (go_at_call 21; refine (hf7 _ (by first | assumption)).mono ?_; rintro e wg ⟨rfl, hbg⟩; have hBg : Below w0.heap.size w0 wg := hBf.trans (hbg.mono hBf.size))
                | (go_at_call 22; refine (hf8 _ (by first | assumption)).mono ?_; rintro e wh ⟨rfl, hbh⟩; have hBh : Below w0.heap.size w0 wh := hBg.trans (hbh.mono hBg.size)))
              all_goals
                have HY := Lib.hid (HZ.out.1.trans (hBh.mono HZ.out.2))
                clear hf1 hf2 hf3 hf4 hf5 hf6 hf7 hf8 hx hba hbb hbc hbd hbe hbf hbg hbh hBa hBb hBc hBd hBe hBf hBg hBh
                go_wp2_with fail
                go_roundw
                case rel => exact ⟨i + 1, by omega, by go_num, HY.out⟩
                case measure => simp [intOf]; omega
      · go_wp2_with fail
        go_ret
        exact ⟨rfl, BR.out⟩
    · go_wp2_with fail
      go_ret
      exact ⟨rfl, BR.out⟩
end Go.Proofs.YthhighljfjeooaaDoor
