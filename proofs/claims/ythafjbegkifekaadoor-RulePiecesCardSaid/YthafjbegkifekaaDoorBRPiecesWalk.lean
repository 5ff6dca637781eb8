/- RulePieces: its walk. -/
import Derived.Test.YthafjbegkifekaaDoorB4
namespace Go.Proofs.YthafjbegkifekaaDoor
open Go.RowKit Go.Extern.Stop Go.Stop Go.Extern WordM RuleM NatM
attribute [local go_sem ↓] Go.wp_at_zero Go.wp_at_succ

set_option maxRecDepth 100000 in
set_option maxHeartbeats 4000000 in
/-- where Step refuses -/
theorem pieces_bad (k r : Int) (p q : Option Addr) (n c m d : Nat) (t l : List Int) (fr tt : Int) (w : World) (A : Nat → Addr) (hr : Roots w A) (hn : n = t.length) (hm : m = l.length) (h : IntV w.heap.size w p c t) (hl : IntV w.heap.size w q d l) (i a : Nat) (hc : chkT k r t l = some (i, a)) :
    Calls Tryd.prog 5 #[.agg #[.int .i64 k, .int .i64 r, .slice p n c], .slice q m d, .int .i64 fr, .int .i64 tt] w (Tells (.bool true) w) := by
  have H := Lib.hid (And.intro hr (And.intro hn (And.intro hm (And.intro h (And.intro hl hc)))))
  clear hr hn hm h hl hc
  go_enter Tryd.func5, Tryd.ntmps5
  go_upto_region 1 with fail
  obtain ⟨w0, hw0⟩ : ∃ w0, w0 = w.alloc (.cells #[.int .i64 k, .int .i64 r, .slice p n c] 24) := ⟨_, rfl⟩
  have hb0 : Below w.heap.size w w0 := by rw [hw0]; exact (Below.refl _ _).alloc (Nat.le_refl _) _
  have hE0 : Rul3 w0 w.heap.size (.int .i64 k) (.int .i64 r) (.slice p n c) := by rw [hw0]; exact Rul3.new w _ _ _
  rw [← hw0]
  have HE := Lib.hid (And.intro hE0 hb0)
  clear hw0 hE0 hb0
  go_wp2_with fail
  refine (awakeR w0 A (H.out.1.below HE.out.2)).mono ?_
  rintro e w1 ⟨rfl, hb1⟩
  have H1 := Lib.hid (And.intro (HE.out.1.next hb1) (HE.out.2.trans (hb1.mono HE.out.2.size)))
  clear hb1
  obtain ⟨_, hc0, hc1, hc2⟩ := H1.out.1.facts
  go_wp2_with fail
  refine (step_bad k r p q n c m d t l w1 A (H.out.1.below H1.out.2) H.out.2.1 H.out.2.2.1 (H.out.2.2.2.1.next H1.out.2) (H.out.2.2.2.2.1.next H1.out.2) i a H.out.2.2.2.2.2).mono ?_
  rintro e w2 ⟨b, rfl, _, hb2⟩
  have HF := Lib.hid (H1.out.2.trans (hb2.mono H1.out.2.size))
  clear hb2
  go_wp2_with fail
  go_ret
  exact ⟨rfl, HF.out⟩
set_option maxRecDepth 100000 in
set_option maxHeartbeats 4000000 in
/-- of words of more than 200 symbols nothing more is asked -/
theorem pieces_long (k r : Int) (p q : Option Addr) (n c m d : Nat) (t l : List Int) (fr tt : Int) (w : World) (A : Nat → Addr) (hr : Roots w A) (hn : n = t.length) (hm : m = l.length) (h : IntV w.heap.size w p c t) (hl : IntV w.heap.size w q d l) (hc : chkT k r t l = none) (h200 : 200 < m) :
    Calls Tryd.prog 5 #[.agg #[.int .i64 k, .int .i64 r, .slice p n c], .slice q m d, .int .i64 fr, .int .i64 tt] w (Tells (.bool true) w) := by
  have hle := hl.le
  have hcap := hl.cap
  unfold maxLen at hcap
  have hmx : m ≤ 9223372036854775807 := by omega
  have H := Lib.hid (And.intro hr (And.intro hn (And.intro hm (And.intro h (And.intro hl hc)))))
  clear hr hn hm h hl hc hle hcap
  go_enter Tryd.func5, Tryd.ntmps5
  go_upto_region 1 with fail
  obtain ⟨w0, hw0⟩ : ∃ w0, w0 = w.alloc (.cells #[.int .i64 k, .int .i64 r, .slice p n c] 24) := ⟨_, rfl⟩
  have hb0 : Below w.heap.size w w0 := by rw [hw0]; exact (Below.refl _ _).alloc (Nat.le_refl _) _
  have hE0 : Rul3 w0 w.heap.size (.int .i64 k) (.int .i64 r) (.slice p n c) := by rw [hw0]; exact Rul3.new w _ _ _
  rw [← hw0]
  have HE := Lib.hid (And.intro hE0 hb0)
  clear hw0 hE0 hb0
  go_wp2_with fail
  refine (awakeR w0 A (H.out.1.below HE.out.2)).mono ?_
  rintro e w1 ⟨rfl, hb1⟩
  have H1 := Lib.hid (And.intro (HE.out.1.next hb1) (HE.out.2.trans (hb1.mono HE.out.2.size)))
  clear hb1
  obtain ⟨_, hc0, hc1, hc2⟩ := H1.out.1.facts
  go_wp2_with fail
  refine (step_ok k r p q n c m d t l w1 H.out.2.1 H.out.2.2.1 (H.out.2.2.2.1.next H1.out.2) (H.out.2.2.2.2.1.next H1.out.2) H.out.2.2.2.2.2).mono ?_
  rintro e w2 ⟨p2, c2, rfl, ho2, hb2⟩
  have hcap2 := ho2.toV.le
  have hcap3 := ho2.toV.cap
  unfold maxLen at hcap3
  obtain ⟨I, hI⟩ : ∃ I, imgW k.toNat r.toNat t l = I := ⟨_, rfl⟩
  rw [hI] at hcap2 ⊢
  have HF := Lib.hid (H1.out.2.trans (hb2.mono H1.out.2.size))
  clear hb2 ho2 hI
  go_wp2_with fail
  go_ret
  exact ⟨rfl, HF.out⟩

theorem mod_in (z : Int) (N : Nat) (hN : 0 < N) (hN2 : N ≤ 1000000) : ∃ (x : Int) (y a : Nat), z.tmod (N : Int) = x ∧ IntKind.i64.wrap (x + (N : Int)) = (y : Int) ∧ (y : Int).tmod (N : Int) = (a : Int) ∧ a < N ∧ -1000000 ≤ x ∧ x ≤ 1000000 := by
  obtain ⟨x, hx⟩ : ∃ x, z.tmod (N : Int) = x := ⟨_, rfl⟩
  have h1 : x < (N : Int) := by rw [← hx]; exact Int.tmod_lt_of_pos _ (by omega)
  have h2 : -(N : Int) < x := by rw [← hx]; exact Int.lt_tmod_of_pos _ (by omega)
  obtain ⟨y, hy⟩ : ∃ y : Nat, x + (N : Int) = (y : Int) := ⟨(x + N).toNat, by omega⟩
  refine ⟨x, y, y % N, hx, by rw [hy, IntWalk.i64_in _ (by omega)], ?_, Nat.mod_lt _ hN, by omega, by omega⟩
  rw [Int.tmod_eq_emod_of_nonneg (by omega)]; rfl

def PcRel (w2 : World) (u : Nat) (v : Value) (wr : World) : Prop := ∃ i : Nat, i ≤ u ∧ v = .int .i64 (i : Int) ∧ Below w2.heap.size w2 wr
set_option maxRecDepth 100000 in
set_option maxHeartbeats 16000000 in
theorem pieces_ok (k r : Nat) (p q : Option Addr) (n c m d : Nat) (t l : List Int) (fr tt : Int) (w : World) (A : Nat → Addr) (hr : Roots w A) (hn : n = t.length) (hm : m = l.length) (h : IntV w.heap.size w p c t) (hl : IntV w.heap.size w q d l) (ho : OkR k r t) (hw : okW k l) (h200 : m ≤ 200) (hm0 : 0 < m) :
    Calls Tryd.prog 5 #[.agg #[.int .i64 (k : Int), .int .i64 (r : Int), .slice p n c], .slice q m d, .int .i64 fr, .int .i64 tt] w (Tells (.bool true) w) := by
  have h4 := ho.k4
  have h3 := ho.r3
  have hle := hl.le
  have hcap := hl.cap
  unfold maxLen at hcap
  have hmd : m ≤ d := by omega
  have hd63 : d ≤ 9223372036854775807 := by omega
  have hst0 := fun W hW hW' => step_ok (k : Int) (r : Int) p q n c m d t l W hn hm hW hW' (chkT_ok ho (by omega) hw)
  simp only [Int.toNat_natCast] at hst0
  have hil := imgW_length k r t l
  have hig := fun i => @imgW_get k r t l i
  obtain ⟨I, hI⟩ : ∃ I, imgW k r t l = I := ⟨_, rfl⟩
  simp only [hI] at hst0 hil hig
  obtain ⟨R2, hR2⟩ : ∃ R2 : Nat, 2 * r = R2 := ⟨_, rfl⟩
  rw [hR2] at hil hig
  obtain ⟨u, hu⟩ : ∃ u, I.length = u := ⟨_, rfl⟩
  rw [← hm] at hil hig
  have hum : u ≤ m := by omega
  have hR6 : R2 ≤ 6 := by omega
  have w2r : IntKind.i64.wrap (2 * (r : Int)) = (R2 : Int) := by rw [IntWalk.i64_in _ (by omega)]; omega
  have wmR : IntKind.i64.wrap ((m : Int) - (R2 : Int)) = (m : Int) - (R2 : Int) := by rw [IntWalk.i64_in _ (by omega)]
  have wmx : max (0 : Int) ((m : Int) - (R2 : Int)) = (u : Int) := by omega
  have H := Lib.hid (And.intro hr (And.intro hn (And.intro hm (And.intro h (And.intro hl (And.intro hst0 (And.intro hig (And.intro hw (And.intro ho (And.intro hR2 (And.intro hu hI)))))))))))
  clear hr hn hm h hl hst0 hig hw ho hR2 hle hcap hI
  have H' := Lib.hid (And.intro hil hu)
  clear hil hu
  go_enter Tryd.func5, Tryd.ntmps5
  go_upto_region 1 with fail
  obtain ⟨w0, hw0⟩ : ∃ w0, w0 = w.alloc (.cells #[.int .i64 (k : Int), .int .i64 (r : Int), .slice p n c] 24) := ⟨_, rfl⟩
  have hb0 : Below w.heap.size w w0 := by rw [hw0]; exact (Below.refl _ _).alloc (Nat.le_refl _) _
  have hE0 : Rul3 w0 w.heap.size (.int .i64 (k : Int)) (.int .i64 (r : Int)) (.slice p n c) := by rw [hw0]; exact Rul3.new w _ _ _
  rw [← hw0]
  have HE := Lib.hid (And.intro hE0 hb0)
  clear hw0 hE0 hb0
  go_wp2_with fail
  refine (awakeR w0 A (H.out.1.below HE.out.2)).mono ?_
  rintro e w1 ⟨rfl, hb1⟩
  have H1 := Lib.hid (And.intro (HE.out.1.next hb1) (HE.out.2.trans (hb1.mono HE.out.2.size)))
  clear hb1
  obtain ⟨_, hc0, hc1, hc2⟩ := H1.out.1.facts
  go_wp2_with fail
  refine (H.out.2.2.2.2.2.1 w1 (H.out.2.2.2.1.next H1.out.2) (H.out.2.2.2.2.1.next H1.out.2)).mono ?_
  rintro e w2 ⟨p2, c2, rfl, ho2, hb2⟩
  rw [H'.out.2]
  have hE2 := H1.out.1.next hb2
  clear hc0 hc1 hc2
  obtain ⟨_, hc0, hc1, hc2⟩ := hE2.facts
  have huc2 : u ≤ c2 := by have := ho2.toV.le; have := H'.out.2; omega
  have hc2m : c2 ≤ 9223372036854775807 := by have := ho2.toV.cap; unfold maxLen at this; omega
  have H2 := Lib.hid (And.intro hE2 (And.intro (H1.out.2.trans (hb2.mono H1.out.2.size)) ho2.toV))
  clear hb2 ho2 hE2
  go_wp2_with fail
  go_loopw [11] (fun v wr => PcRel w2 u v wr) (fun v _ => u - (intOf v).toNat)
  case atStart => exact ⟨0, Nat.zero_le _, rfl, Below.refl _ _⟩
  case round =>
    obtain ⟨i, hi, rfl, hb⟩ := hrel
    have hbw := H2.out.2.1.trans (hb.mono H2.out.2.1.size)
    have hEr := H2.out.1.next hb
    clear hc0 hc1 hc2
    obtain ⟨_, hc0, hc1, hc2⟩ := hEr.facts
    by_cases hlt : i < u
    · obtain ⟨J, hJ⟩ : ∃ J, i + R2 + 1 = J := ⟨_, rfl⟩
      have wiR : IntKind.i64.wrap ((i : Int) + (R2 : Int)) = (i : Int) + (R2 : Int) := by rw [IntWalk.i64_in _ (by omega)]
      have wJ : IntKind.i64.wrap ((i : Int) + (R2 : Int) + 1) = (J : Int) := by rw [IntWalk.i64_in _ (by omega)]; omega
      have hJm : J ≤ m := by have := H'.out.1; have := H'.out.2; omega
      have hiJ : i ≤ J := by omega
      have zi0 : (0 : Int) ≤ (i : Int) := by omega
      have ziJ : (i : Int) ≤ (J : Int) := by omega
      have zJd : (J : Int) ≤ (d : Int) := by omega
      have hml := H.out.2.2.1
      obtain ⟨b, off, rfl, hbb, hcc⟩ := H.out.2.2.2.2.1.cell (by rintro rfl; simp at hml; omega)
      obtain ⟨X, hX⟩ : ∃ X, win l i (R2 + 1) = X := ⟨_, rfl⟩
      have hXl : J - i = X.length := by rw [← hX, win_length (by omega)]; omega
      have hXo : okW k X := by rw [← hX]; exact win_ok H.out.2.2.2.2.2.2.2.1 _ _
      have hIi := H.out.2.2.2.2.2.2.1 i (by have := H'.out.1; have := H'.out.2; omega)
      rw [hX] at hIi
      have hpc : ∀ wx : World, Below wr.heap.size wr wx → IntV wx.heap.size wx (some ⟨b, off + i, none⟩) (d - i) X := fun wx hbx => by
        have := (((H.out.2.2.2.2.1.next hbw).next hbx).drop i (by omega)).take (R2 + 1)
        rw [← hX]; exact this
      have hfo := ent_ok (i := valW k X) H.out.2.2.2.2.2.2.2.2.1.ok (by rw [H.out.2.2.2.2.2.2.2.2.1.len]; have := valW_lt hXo; rw [← hXl] at this; rw [H.out.2.2.2.2.2.2.2.2.2.1, show R2 + 1 = J - i by omega]; exact this)
      have hloc : ∀ (wx : World) (p9 : Option Addr) (c9 : Nat), Below wr.heap.size wr wx → IntV wx.heap.size wx p9 c9 X → Calls Tryd.prog 22 #[.agg #[.int .i64 (k : Int), .int .i64 (r : Int), .slice p n c], .slice p9 (J - i) c9] wx (IntOk1 wx (ent t (valW k X))) := fun wx p9 c9 hbx hx9 =>
        local_ok k r p p9 n c (J - i) c9 t X wx H.out.2.1 hXl ((H.out.2.2.2.1.next hbw).next hbx) hx9 H.out.2.2.2.2.2.2.2.2.1 (by have := H.out.2.2.2.2.2.2.2.2.2.1; omega) hXo
      obtain ⟨f, hf⟩ : ∃ f, ent t (valW k X) = f := ⟨_, rfl⟩
      rw [hf] at hIi hfo
      simp only [hf] at hloc
      obtain ⟨b2, off2, hp2, hb2, hc2'⟩ := H2.out.2.2.cell (by have := H'.out.2; rintro rfl; simp at this; omega)
      subst hp2
      have hci : ∀ wx : World, Below wr.heap.size wr wx → wx.cell? ⟨b2, off2 + i, none⟩ = some (.int .i64 f) := fun wx hbx => ((hb.trans (hbx.mono hb.size)).cell (p := ⟨b2, off2 + i, none⟩) hb2).trans (hc2' i f hIi)
      have hxA : ∀ wx : World, Below wr.heap.size wr wx → wx.cell? ⟨w.heap.size, 0, none⟩ = some (.int .i64 (k : Int)) := fun wx hbx => (hEr.next hbx).facts.2.1
      have hxB : ∀ wx : World, Below wr.heap.size wr wx → wx.cell? ⟨w.heap.size, 1, none⟩ = some (.int .i64 (r : Int)) := fun wx hbx => (hEr.next hbx).facts.2.2.1
      have hxC : ∀ wx : World, Below wr.heap.size wr wx → wx.cell? ⟨w.heap.size, 2, none⟩ = some (.slice p n c) := fun wx hbx => (hEr.next hbx).facts.2.2.2
      have hd0 : Below wr.heap.size wr wr.drew := (Below.refl _ _).drew
      have hdA : Below wr.heap.size wr (wr.drew.alloc (.cells #[] 3)) := hd0.alloc (Nat.le_refl _) _
      have hblk : (wr.drew.alloc (.cells #[] 3)).heap[wr.heap.size]? = some (.cells #[] 3 (0, 0)) := heap_newN wr.drew _
      have hXl3 : X.length ≤ 17592186043904 := by omega
      have HB := Lib.hid (And.intro hbw (And.intro hEr hb))
      have HXL := Lib.hid hXl
      have hdi : ¬ d = i := by omega
      clear hbw hEr hb hJ hml hcc hX hIi hXo hf hc2' hXl
      go_wp2_with fail
      go_region_held3 (fun w' => w'.cell? ⟨w.heap.size, 0, none⟩ = some (.int .i64 (k : Int)) ∧ w'.cell? ⟨w.heap.size, 1, none⟩ = some (.int .i64 (r : Int)) ∧ w'.cell? ⟨w.heap.size, 2, none⟩ = some (.slice p n c)) (first | exact ⟨hxA _ hd0, hxB _ hd0, hxC _ hd0⟩ | exact ⟨hxA _ hdA, hxB _ hdA, hxC _ hdA⟩ | exact ⟨hxA _ hB9, hxB _ hB9, hxC _ hB9⟩ | exact ⟨hxA _ hB8, hxB _ hB8, hxC _ hB8⟩ | go_keep) (first
        | (refine step_copyI (by rfl) _ _ (by rfl) wr.heap.size (by rfl) hblk (some ⟨b, off + i, none⟩) (J - i) (d - i) X (by first | rfl | simp [Act.eval]) HXL.out (hpc _ hdA) hXl3 ?_; intro p9 c9 w9 ho9 hb9; have hB9 : Below wr.heap.size wr w9 := hdA.trans hb9)
        | (go_at_call 22; refine (hloc w9 p9 c9 hB9 ho9.toV).mono ?_; rintro e w8 ⟨rfl, hb8⟩; have hB8 : Below wr.heap.size wr w8 := hB9.trans (hb8.mono hB9.size)))
      all_goals
        have hci8 := hci _ hB8
        have hx8 := hxA _ hB8
        have HR := Lib.hid (HB.out.2.2.trans (hB8.mono HB.out.2.2.size))
        have hf1 : ¬ f < 0 := by omega
        have hf2 : ¬ (k : Int) ≤ f := by omega
        clear hxA hxB hxC hd0 hdA hblk hXl3 hloc hpc ho9 hb9 hb8 hB9 hB8 hci hfo
        go_wp2_with fail
        go_roundw
        case rel => exact ⟨i + 1, by omega, by go_num, HR.out⟩
        case measure => simp [intOf]; omega
    · obtain rfl : i = u := by omega
      obtain ⟨N, hN⟩ : ∃ N, m + 1 = N := ⟨_, rfl⟩
      have wN : IntKind.i64.wrap ((m : Int) + 1) = (N : Int) := by rw [IntWalk.i64_in _ (by omega)]; omega
      have hN0 : ¬ (N : Int) = 0 := by omega
      obtain ⟨x1, y1, a, tf1, wf1, tf1', ha, hx1, hx1'⟩ := mod_in fr N (by omega) (by omega)
      obtain ⟨x2, y2, b0, tf2, wf2, tf2', hb0, hx2, hx2'⟩ := mod_in tt N (by omega) (by omega)
      have ham : a ≤ m := by omega
      have hbm : b0 ≤ m := by omega
      have hml := H.out.2.2.1
      obtain ⟨b, off, rfl, hbb, hcc⟩ := H.out.2.2.2.2.1.cell (by rintro rfl; simp at hml; omega)
      have hxA : ∀ wx : World, Below wr.heap.size wr wx → wx.cell? ⟨w.heap.size, 0, none⟩ = some (.int .i64 (k : Int)) := fun wx hbx => (hEr.next hbx).facts.2.1
      have hxB : ∀ wx : World, Below wr.heap.size wr wx → wx.cell? ⟨w.heap.size, 1, none⟩ = some (.int .i64 (r : Int)) := fun wx hbx => (hEr.next hbx).facts.2.2.1
      have hxC : ∀ wx : World, Below wr.heap.size wr wx → wx.cell? ⟨w.heap.size, 2, none⟩ = some (.slice p n c) := fun wx hbx => (hEr.next hbx).facts.2.2.2
      have hd0 : Below wr.heap.size wr wr.drew := (Below.refl _ _).drew
      have hdA : Below wr.heap.size wr (wr.drew.alloc (.cells #[] 3)) := hd0.alloc (Nat.le_refl _) _
      have hblk : (wr.drew.alloc (.cells #[] 3)).heap[wr.heap.size]? = some (.cells #[] 3 (0, 0)) := heap_newN wr.drew _
      have HN := Lib.hid hN
      clear hN hml hcc ha hb0
      by_cases hab : b0 < a
      · skip
        have hle : b0 ≤ a := by omega
        have zl0 : (0 : Int) ≤ (b0 : Int) := by omega
        have zlh : (b0 : Int) ≤ (a : Int) := by omega
        have zhd : (a : Int) ≤ (d : Int) := by omega
        obtain ⟨M, hM⟩ : ∃ M, a - b0 = M := ⟨_, rfl⟩
        obtain ⟨P, hP⟩ : ∃ P, (l.drop b0).take M = P := ⟨_, rfl⟩
        have hPl : a - b0 = P.length := by rw [← hP, List.length_take, List.length_drop]; have := H.out.2.2.1; omega
        have hPo : okW k P := by rw [← hP]; exact okW_take (okW_drop H.out.2.2.2.2.2.2.2.1 _) _
        have hpc : ∀ wx : World, Below wr.heap.size wr wx → IntV wx.heap.size wx (if d = b0 then some ⟨b, off, none⟩ else some ⟨b, off + b0, none⟩) (d - b0) P := fun wx hbx => by
          have hv := (((H.out.2.2.2.2.1.next hbw).next hbx).drop b0 (by have := H.out.2.2.1; omega)).take M
          split
          · have hP0 : P = [] := List.eq_nil_of_length_eq_zero (by omega)
            rw [hP0]
            exact IntV.empty (by unfold maxLen; omega) (fun e => by cases e)
          · rw [← hP]; exact hv
        have hst := fun (wx : World) (p9 : Option Addr) (c9 : Nat) (hbx : Below wr.heap.size wr wx) (hx9 : IntV wx.heap.size wx p9 c9 P) =>
          step_ok (k : Int) (r : Int) p p9 n c (a - b0) c9 t P wx H.out.2.1 hPl ((H.out.2.2.2.1.next hbw).next hbx) hx9 (chkT_ok H.out.2.2.2.2.2.2.2.2.1 (by omega) hPo)
        simp only [Int.toNat_natCast] at hst
        have hpi := img_piece (k := k) (r := r) (t := t) (w := l) (a := b0) (b := M) (by have := H.out.2.2.1; omega)
        rw [hP, H.out.2.2.2.2.2.2.2.2.2.2.2] at hpi
        obtain ⟨Y, hY⟩ : ∃ Y, imgW k r t P = Y := ⟨_, rfl⟩
        have hYl := imgW_length k r t P
        rw [hY] at hpi hYl
        simp only [hY] at hst
        obtain ⟨y, hy⟩ : ∃ y, Y.length = y := ⟨_, rfl⟩
        have hyM : M - R2 = y := by have := H.out.2.2.2.2.2.2.2.2.2.1; omega
        have wtf : IntKind.i64.wrap ((a : Int) - (b0 : Int)) = (M : Int) := by rw [IntWalk.i64_in _ (by omega)]; omega
        have wMR : IntKind.i64.wrap ((M : Int) - (R2 : Int)) = (M : Int) - (R2 : Int) := by rw [IntWalk.i64_in _ (by omega)]
        have wmy : max (0 : Int) ((M : Int) - (R2 : Int)) = (y : Int) := by omega
        have hXl3 : P.length ≤ 17592186043904 := by omega
        have hyi : b0 + y ≤ i ∨ y = 0 := by have := H'.out.1; have := H'.out.2; omega
        have HB := Lib.hid (And.intro hbw (And.intro hEr (And.intro hb (And.intro hpi (And.intro hy (And.intro hyM hyi))))))
        have HXL := Lib.hid hPl
        clear hbw hEr hb hP hPo hpi hY hYl hy hyM hM hPl
        go_wp2_with fail
        go_region_held3 (fun w' => w'.cell? ⟨w.heap.size, 0, none⟩ = some (.int .i64 (k : Int)) ∧ w'.cell? ⟨w.heap.size, 1, none⟩ = some (.int .i64 (r : Int)) ∧ w'.cell? ⟨w.heap.size, 2, none⟩ = some (.slice p n c)) (first | exact ⟨hxA _ hd0, hxB _ hd0, hxC _ hd0⟩ | exact ⟨hxA _ hdA, hxB _ hdA, hxC _ hdA⟩ | exact ⟨hxA _ hB9, hxB _ hB9, hxC _ hB9⟩ | exact ⟨hxA _ hB8, hxB _ hB8, hxC _ hB8⟩ | go_keep) (first
          | (refine step_copyI (by rfl) _ _ (by rfl) wr.heap.size (by rfl) hblk (if d = b0 then some ⟨b, off, none⟩ else some ⟨b, off + b0, none⟩) (a - b0) (d - b0) P (by first | rfl | simp [Act.eval]) HXL.out (hpc _ hdA) hXl3 ?_; intro p9 c9 w9 ho9 hb9; have hB9 : Below wr.heap.size wr w9 := hdA.trans hb9)
          | (go_at_call 20; refine (hst w9 p9 c9 hB9 ho9.toV).mono ?_; rintro e w8 ⟨p8, c8, rfl, ho8, hb8⟩; have hB8 : Below wr.heap.size wr w8 := hB9.trans (hb8.mono hB9.size)))
        all_goals
          rw [HB.out.2.2.2.2.1]
          have hx8 := hxB _ hB8
          have hle8 := ho8.toV.le
          have hcap8 := ho8.toV.cap
          unfold maxLen at hcap8
          rw [HB.out.2.2.2.2.1] at hle8
          have HR := Lib.hid (And.intro (HB.out.2.2.1.trans (hB8.mono HB.out.2.2.1.size)) ho8.toV)
          clear hxA hxB hxC hd0 hdA hblk hXl3 hst hpc ho9 hb9 hb8 hB9 hB8 ho8
          rcases Nat.eq_zero_or_pos y with hy0 | hy0
          · subst hy0
            go_wp2_with fail
            go_ret
            exact ⟨rfl, H2.out.2.1.trans (HR.out.1.mono H2.out.2.1.size)⟩
          · have hyu : b0 + y ≤ i := by rcases HB.out.2.2.2.2.2.2 with h | h <;> omega
            obtain ⟨b2, off2, hp2, hb2, hc2'⟩ := H2.out.2.2.cell (by have := H'.out.2; rintro rfl; simp at this; omega)
            subst hp2
            obtain ⟨J, hJ⟩ : ∃ J, b0 + y = J := ⟨_, rfl⟩
            have wJ : IntKind.i64.wrap ((b0 : Int) + (y : Int)) = (J : Int) := by rw [IntWalk.i64_in _ (by omega)]; omega
            have hloJ : b0 ≤ J := by omega
            have zlJ : (b0 : Int) ≤ (J : Int) := by omega
            have zJc : (J : Int) ≤ (c2 : Int) := by omega
            have hJc : J ≤ c2 := by omega
            have hy00 : ((y : Int) == 0) = false := by rw [beq_eq_false_iff_ne]; omega
            have HJ := Lib.hid hJ
            clear hc2' hJ hyu
            go_wp2_with fail
            refine (ints_any _ _ _ _ _ _ Y Y _ HB.out.2.2.2.2.1.symm (by have := HB.out.2.2.2.2.1; have := HJ.out; omega) HR.out.2 ?_).mono ?_
            · have := ((H2.out.2.2.next HR.out.1).drop b0 (by have := H'.out.2; have := HJ.out; omega)).take (M - 2 * r)
              rw [HB.out.2.2.2.1]; exact this
            rintro e w7 ⟨rfl, hb7⟩
            rw [sameI_self]
            have HF := Lib.hid (H2.out.2.1.trans ((HR.out.1.trans (hb7.mono HR.out.1.size)).mono H2.out.2.1.size))
            clear hb7
            go_wp2_with fail
            go_ret
            exact ⟨rfl, HF.out⟩
      · by_cases hda : d = a
        · have e1 : a = m := by omega
          subst e1
          have e2 : a = b0 := by omega
          subst e2
          have e3 : a = d := hda.symm
          subst e3
          have hnil : imgW k r t [] = [] := imgW_nil (Nat.zero_le _)
          have hst := fun (wx : World) (p9 : Option Addr) (c9 : Nat) (hbx : Below wr.heap.size wr wx) (hx9 : IntV wx.heap.size wx p9 c9 []) =>
            step_ok (k : Int) (r : Int) p p9 n c 0 c9 t [] wx H.out.2.1 rfl ((H.out.2.2.2.1.next hbw).next hbx) hx9 (chkT_ok H.out.2.2.2.2.2.2.2.2.1 (by simp) (okW_nil k))
          simp only [Int.toNat_natCast, hnil] at hst
          have hpc : ∀ wx : World, IntV wx.heap.size wx (some ⟨b, off, none⟩) 0 [] := fun wx => IntV.empty (Nat.zero_le _) (fun e => by cases e)
          have HB := Lib.hid (And.intro hbw (And.intro hEr hb))
          have wtf : IntKind.i64.wrap ((a : Int) - (a : Int)) = 0 := by rw [Int.sub_self]; rfl
          have wMR : IntKind.i64.wrap ((0 : Int) - (R2 : Int)) = 0 - (R2 : Int) := by rw [IntWalk.i64_in _ (by omega)]
          have wmy : max (0 : Int) (0 - (R2 : Int)) = 0 := by omega
          have wMR' : IntKind.i64.wrap (-(R2 : Int)) = -(R2 : Int) := by rw [IntWalk.i64_in _ (by omega)]
          have wmy' : max (0 : Int) (-(R2 : Int)) = 0 := by omega
          clear hbw hEr hb hnil hda
          go_wp2_with fail
          go_region_held3 (fun w' => w'.cell? ⟨w.heap.size, 0, none⟩ = some (.int .i64 (k : Int)) ∧ w'.cell? ⟨w.heap.size, 1, none⟩ = some (.int .i64 (r : Int)) ∧ w'.cell? ⟨w.heap.size, 2, none⟩ = some (.slice p n c)) (first | exact ⟨hxA _ hd0, hxB _ hd0, hxC _ hd0⟩ | exact ⟨hxA _ hdA, hxB _ hdA, hxC _ hdA⟩ | exact ⟨hxA _ hB9, hxB _ hB9, hxC _ hB9⟩ | exact ⟨hxA _ hB8, hxB _ hB8, hxC _ hB8⟩ | go_keep) (first
            | (refine step_copyI (by rfl) _ _ (by rfl) wr.heap.size (by rfl) hblk (some ⟨b, off, none⟩) 0 0 [] (by first | rfl | simp [Act.eval]) rfl (hpc _) (by simp) ?_; intro p9 c9 w9 ho9 hb9; have hB9 : Below wr.heap.size wr w9 := hdA.trans hb9)
            | (go_at_call 20; refine (hst w9 p9 c9 hB9 ho9.toV).mono ?_; rintro e w8 ⟨p8, c8, rfl, ho8, hb8⟩; have hB8 : Below wr.heap.size wr w8 := hB9.trans (hb8.mono hB9.size)))
          all_goals
            have hx8 := hxB _ hB8
            have HR := Lib.hid (HB.out.2.2.trans (hB8.mono HB.out.2.2.size))
            clear hxA hxB hxC hd0 hdA hblk hst hpc ho9 hb9 hb8 hB9 hB8 ho8
            go_wp2_with fail
            go_ret
            exact ⟨rfl, H2.out.2.1.trans (HR.out.mono H2.out.2.1.size)⟩
        · skip
          have hle : a ≤ b0 := by omega
          have zl0 : (0 : Int) ≤ (a : Int) := by omega
          have zlh : (a : Int) ≤ (b0 : Int) := by omega
          have zhd : (b0 : Int) ≤ (d : Int) := by omega
          obtain ⟨M, hM⟩ : ∃ M, b0 - a = M := ⟨_, rfl⟩
          obtain ⟨P, hP⟩ : ∃ P, (l.drop a).take M = P := ⟨_, rfl⟩
          have hPl : b0 - a = P.length := by rw [← hP, List.length_take, List.length_drop]; have := H.out.2.2.1; omega
          have hPo : okW k P := by rw [← hP]; exact okW_take (okW_drop H.out.2.2.2.2.2.2.2.1 _) _
          have hpc : ∀ wx : World, Below wr.heap.size wr wx → IntV wx.heap.size wx (some ⟨b, off + a, none⟩) (d - a) P := fun wx hbx => by
            have hv := (((H.out.2.2.2.2.1.next hbw).next hbx).drop a (by have := H.out.2.2.1; omega)).take M
            rw [← hP]; exact hv
          have hst := fun (wx : World) (p9 : Option Addr) (c9 : Nat) (hbx : Below wr.heap.size wr wx) (hx9 : IntV wx.heap.size wx p9 c9 P) =>
            step_ok (k : Int) (r : Int) p p9 n c (b0 - a) c9 t P wx H.out.2.1 hPl ((H.out.2.2.2.1.next hbw).next hbx) hx9 (chkT_ok H.out.2.2.2.2.2.2.2.2.1 (by omega) hPo)
          simp only [Int.toNat_natCast] at hst
          have hpi := img_piece (k := k) (r := r) (t := t) (w := l) (a := a) (b := M) (by have := H.out.2.2.1; omega)
          rw [hP, H.out.2.2.2.2.2.2.2.2.2.2.2] at hpi
          obtain ⟨Y, hY⟩ : ∃ Y, imgW k r t P = Y := ⟨_, rfl⟩
          have hYl := imgW_length k r t P
          rw [hY] at hpi hYl
          simp only [hY] at hst
          obtain ⟨y, hy⟩ : ∃ y, Y.length = y := ⟨_, rfl⟩
          have hyM : M - R2 = y := by have := H.out.2.2.2.2.2.2.2.2.2.1; omega
          have wtf : IntKind.i64.wrap ((b0 : Int) - (a : Int)) = (M : Int) := by rw [IntWalk.i64_in _ (by omega)]; omega
          have wMR : IntKind.i64.wrap ((M : Int) - (R2 : Int)) = (M : Int) - (R2 : Int) := by rw [IntWalk.i64_in _ (by omega)]
          have wmy : max (0 : Int) ((M : Int) - (R2 : Int)) = (y : Int) := by omega
          have hXl3 : P.length ≤ 17592186043904 := by omega
          have hyi : a + y ≤ i ∨ y = 0 := by have := H'.out.1; have := H'.out.2; omega
          have HB := Lib.hid (And.intro hbw (And.intro hEr (And.intro hb (And.intro hpi (And.intro hy (And.intro hyM hyi))))))
          have HXL := Lib.hid hPl
          clear hbw hEr hb hP hPo hpi hY hYl hy hyM hM hPl
          go_wp2_with fail
          go_region_held3 (fun w' => w'.cell? ⟨w.heap.size, 0, none⟩ = some (.int .i64 (k : Int)) ∧ w'.cell? ⟨w.heap.size, 1, none⟩ = some (.int .i64 (r : Int)) ∧ w'.cell? ⟨w.heap.size, 2, none⟩ = some (.slice p n c)) (first | exact ⟨hxA _ hd0, hxB _ hd0, hxC _ hd0⟩ | exact ⟨hxA _ hdA, hxB _ hdA, hxC _ hdA⟩ | exact ⟨hxA _ hB9, hxB _ hB9, hxC _ hB9⟩ | exact ⟨hxA _ hB8, hxB _ hB8, hxC _ hB8⟩ | go_keep) (first
            | (refine step_copyI (by rfl) _ _ (by rfl) wr.heap.size (by rfl) hblk (some ⟨b, off + a, none⟩) (b0 - a) (d - a) P (by first | rfl | simp [Act.eval]) HXL.out (hpc _ hdA) hXl3 ?_; intro p9 c9 w9 ho9 hb9; have hB9 : Below wr.heap.size wr w9 := hdA.trans hb9)
            | (go_at_call 20; refine (hst w9 p9 c9 hB9 ho9.toV).mono ?_; rintro e w8 ⟨p8, c8, rfl, ho8, hb8⟩; have hB8 : Below wr.heap.size wr w8 := hB9.trans (hb8.mono hB9.size)))
          all_goals
            rw [HB.out.2.2.2.2.1]
            have hx8 := hxB _ hB8
            have hle8 := ho8.toV.le
            have hcap8 := ho8.toV.cap
            unfold maxLen at hcap8
            rw [HB.out.2.2.2.2.1] at hle8
            have HR := Lib.hid (And.intro (HB.out.2.2.1.trans (hB8.mono HB.out.2.2.1.size)) ho8.toV)
            clear hxA hxB hxC hd0 hdA hblk hXl3 hst hpc ho9 hb9 hb8 hB9 hB8 ho8
            rcases Nat.eq_zero_or_pos y with hy0 | hy0
            · subst hy0
              go_wp2_with fail
              go_ret
              exact ⟨rfl, H2.out.2.1.trans (HR.out.1.mono H2.out.2.1.size)⟩
            · have hyu : a + y ≤ i := by rcases HB.out.2.2.2.2.2.2 with h | h <;> omega
              obtain ⟨b2, off2, hp2, hb2, hc2'⟩ := H2.out.2.2.cell (by have := H'.out.2; rintro rfl; simp at this; omega)
              subst hp2
              obtain ⟨J, hJ⟩ : ∃ J, a + y = J := ⟨_, rfl⟩
              have wJ : IntKind.i64.wrap ((a : Int) + (y : Int)) = (J : Int) := by rw [IntWalk.i64_in _ (by omega)]; omega
              have hloJ : a ≤ J := by omega
              have zlJ : (a : Int) ≤ (J : Int) := by omega
              have zJc : (J : Int) ≤ (c2 : Int) := by omega
              have hJc : J ≤ c2 := by omega
              have hy00 : ((y : Int) == 0) = false := by rw [beq_eq_false_iff_ne]; omega
              have HJ := Lib.hid hJ
              clear hc2' hJ hyu
              go_wp2_with fail
              refine (ints_any _ _ _ _ _ _ Y Y _ HB.out.2.2.2.2.1.symm (by have := HB.out.2.2.2.2.1; have := HJ.out; omega) HR.out.2 ?_).mono ?_
              · have := ((H2.out.2.2.next HR.out.1).drop a (by have := H'.out.2; have := HJ.out; omega)).take (M - 2 * r)
                rw [HB.out.2.2.2.1]; exact this
              rintro e w7 ⟨rfl, hb7⟩
              rw [sameI_self]
              have HF := Lib.hid (H2.out.2.1.trans ((HR.out.1.trans (hb7.mono HR.out.1.size)).mono H2.out.2.1.size))
              clear hb7
              go_wp2_with fail
              go_ret
              exact ⟨rfl, HF.out⟩

set_option maxRecDepth 100000 in
set_option maxHeartbeats 16000000 in
/-- of the word of no symbol -/
theorem pieces_nil (k r : Nat) (p q : Option Addr) (n c d : Nat) (t : List Int) (fr tt : Int) (w : World) (A : Nat → Addr) (hr : Roots w A) (hn : n = t.length) (h : IntV w.heap.size w p c t) (hl : IntV w.heap.size w q d []) (ho : OkR k r t) :
    Calls Tryd.prog 5 #[.agg #[.int .i64 (k : Int), .int .i64 (r : Int), .slice p n c], .slice q 0 d, .int .i64 fr, .int .i64 tt] w (Tells (.bool true) w) := by
  have h4 := ho.k4
  have h3 := ho.r3
  have hd63 : d ≤ 9223372036854775807 := by have := hl.cap; unfold maxLen at this; omega
  have hnil : imgW k r t [] = [] := imgW_nil (Nat.zero_le _)
  have hst := fun W q' d' hW hW' => step_ok (k : Int) (r : Int) p q' n c 0 d' t [] W hn rfl hW hW' (chkT_ok ho (by simp) (okW_nil k))
  simp only [Int.toNat_natCast, hnil] at hst
  obtain ⟨R2, hR2⟩ : ∃ R2 : Nat, 2 * r = R2 := ⟨_, rfl⟩
  have w2r : IntKind.i64.wrap (2 * (r : Int)) = (R2 : Int) := by rw [IntWalk.i64_in _ (by omega)]; omega
  have wmR : IntKind.i64.wrap ((0 : Int) - (R2 : Int)) = 0 - (R2 : Int) := by rw [IntWalk.i64_in _ (by omega)]
  have wmR' : IntKind.i64.wrap (-(R2 : Int)) = -(R2 : Int) := by rw [IntWalk.i64_in _ (by omega)]
  have wmx : max (0 : Int) (0 - (R2 : Int)) = 0 := by omega
  have wmx' : max (0 : Int) (-(R2 : Int)) = 0 := by omega
  obtain ⟨x1, y1, a, tf1, wf1, tf1', ha, hx1, hx1'⟩ := mod_in fr 1 (by omega) (by omega)
  obtain ⟨x2, y2, b0, tf2, wf2, tf2', hb0, hx2, hx2'⟩ := mod_in tt 1 (by omega) (by omega)
  obtain rfl : a = 0 := by omega
  obtain rfl : b0 = 0 := by omega
  have H := Lib.hid (And.intro hr (And.intro hn (And.intro h (And.intro hl hst))))
  clear hr hn h hl hst ho hnil hR2 ha hb0
  replace tf1 : fr.tmod 1 = x1 := tf1
  replace wf1 : IntKind.i64.wrap (x1 + 1) = (y1 : Int) := wf1
  replace tf1' : (y1 : Int).tmod 1 = 0 := tf1'
  replace tf2 : tt.tmod 1 = x2 := tf2
  replace wf2 : IntKind.i64.wrap (x2 + 1) = (y2 : Int) := wf2
  replace tf2' : (y2 : Int).tmod 1 = 0 := tf2'
  go_enter Tryd.func5, Tryd.ntmps5
  go_upto_region 1 with fail
  obtain ⟨w0, hw0⟩ : ∃ w0, w0 = w.alloc (.cells #[.int .i64 (k : Int), .int .i64 (r : Int), .slice p n c] 24) := ⟨_, rfl⟩
  have hb0 : Below w.heap.size w w0 := by rw [hw0]; exact (Below.refl _ _).alloc (Nat.le_refl _) _
  have hE0 : Rul3 w0 w.heap.size (.int .i64 (k : Int)) (.int .i64 (r : Int)) (.slice p n c) := by rw [hw0]; exact Rul3.new w _ _ _
  rw [← hw0]
  have HE := Lib.hid (And.intro hE0 hb0)
  clear hw0 hE0 hb0
  go_wp2_with fail
  refine (awakeR w0 A (H.out.1.below HE.out.2)).mono ?_
  rintro e w1 ⟨rfl, hb1⟩
  have H1 := Lib.hid (And.intro (HE.out.1.next hb1) (HE.out.2.trans (hb1.mono HE.out.2.size)))
  clear hb1
  obtain ⟨_, hc0, hc1, hc2⟩ := H1.out.1.facts
  go_wp2_with fail
  refine (H.out.2.2.2.2 w1 q d (H.out.2.2.1.next H1.out.2) (H.out.2.2.2.1.next H1.out.2)).mono ?_
  rintro e w2 ⟨p2, c2, rfl, ho2, hb2⟩
  have hE2 := H1.out.1.next hb2
  clear hc0 hc1 hc2
  obtain ⟨_, hc0, hc1, hc2⟩ := hE2.facts
  have H2 := Lib.hid (And.intro hE2 (And.intro (H1.out.2.trans (hb2.mono H1.out.2.size)) ho2.toV))
  clear hb2 ho2 hE2
  have hbw := H2.out.2.1
  have hEr := H2.out.1
  have hxA : ∀ wx : World, Below w2.heap.size w2 wx → wx.cell? ⟨w.heap.size, 0, none⟩ = some (.int .i64 (k : Int)) := fun wx hbx => (hEr.next hbx).facts.2.1
  have hxB : ∀ wx : World, Below w2.heap.size w2 wx → wx.cell? ⟨w.heap.size, 1, none⟩ = some (.int .i64 (r : Int)) := fun wx hbx => (hEr.next hbx).facts.2.2.1
  have hxC : ∀ wx : World, Below w2.heap.size w2 wx → wx.cell? ⟨w.heap.size, 2, none⟩ = some (.slice p n c) := fun wx hbx => (hEr.next hbx).facts.2.2.2
  have hd0 : Below w2.heap.size w2 w2.drew := (Below.refl _ _).drew
  have hdA : Below w2.heap.size w2 (w2.drew.alloc (.cells #[] 3)) := hd0.alloc (Nat.le_refl _) _
  have hblk : (w2.drew.alloc (.cells #[] 3)).heap[w2.heap.size]? = some (.cells #[] 3 (0, 0)) := heap_newN w2.drew _
  have hst2 := fun (wx : World) (p9 : Option Addr) (c9 : Nat) (hbx : Below w2.heap.size w2 wx) (hx9 : IntV wx.heap.size wx p9 c9 []) => H.out.2.2.2.2 wx p9 c9 ((H.out.2.2.1.next hbw).next hbx) hx9
  have HX := Lib.hid hbw
  clear hbw hEr
  have hnl := H.out.2.2.2.1.nil
  rcases q with _ | ad
  · obtain rfl : d = 0 := hnl rfl
    clear hnl
    have hpc : ∀ wx : World, IntV wx.heap.size wx none 0 [] := fun wx => IntV.empty (by unfold maxLen; omega) (fun e => by first | rfl | cases e)
    go_wp2_with fail
    go_loopw [11] (fun v wr => v = .int .i64 0 ∧ wr = w2) (fun _ _ => 0)
    case atStart => exact ⟨rfl, rfl⟩
    case round =>
      obtain ⟨rfl, rfl⟩ := hrel
      go_wp2_with fail
      go_region_held3 (fun w' => w'.cell? ⟨w.heap.size, 0, none⟩ = some (.int .i64 (k : Int)) ∧ w'.cell? ⟨w.heap.size, 1, none⟩ = some (.int .i64 (r : Int)) ∧ w'.cell? ⟨w.heap.size, 2, none⟩ = some (.slice p n c)) (first | exact ⟨hxA _ hd0, hxB _ hd0, hxC _ hd0⟩ | exact ⟨hxA _ hdA, hxB _ hdA, hxC _ hdA⟩ | exact ⟨hxA _ hB9, hxB _ hB9, hxC _ hB9⟩ | exact ⟨hxA _ hB8, hxB _ hB8, hxC _ hB8⟩ | go_keep) (first
        | (refine step_copyI (by rfl) _ _ (by rfl) wr.heap.size (by rfl) hblk none 0 0 [] (by first | rfl | simp [Act.eval]) rfl (hpc _) (by simp) ?_; intro p9 c9 w9 ho9 hb9; have hB9 : Below wr.heap.size wr w9 := hdA.trans hb9)
        | (go_at_call 20; refine (hst2 w9 p9 c9 hB9 ho9.toV).mono ?_; rintro e w8 ⟨p8, c8, rfl, ho8, hb8⟩; have hB8 : Below wr.heap.size wr w8 := hB9.trans (hb8.mono hB9.size)))
      all_goals
        have hx8 := hxB _ hB8
        have HR := Lib.hid (HX.out.trans (hB8.mono HX.out.size))
        clear hxA hxB hxC hd0 hdA hblk hst2 hpc ho9 hb9 hb8 hB9 hB8 ho8
        go_wp2_with fail
        go_ret
        exact ⟨rfl, HR.out⟩
  · rcases Nat.eq_zero_or_pos d with rfl | hdp
    · skip
      clear hnl
      have hpc : ∀ wx : World, IntV wx.heap.size wx (some ad) 0 [] := fun wx => IntV.empty (by unfold maxLen; omega) (fun e => by first | rfl | cases e)
      go_wp2_with fail
      go_loopw [11] (fun v wr => v = .int .i64 0 ∧ wr = w2) (fun _ _ => 0)
      case atStart => exact ⟨rfl, rfl⟩
      case round =>
        obtain ⟨rfl, rfl⟩ := hrel
        go_wp2_with fail
        go_region_held3 (fun w' => w'.cell? ⟨w.heap.size, 0, none⟩ = some (.int .i64 (k : Int)) ∧ w'.cell? ⟨w.heap.size, 1, none⟩ = some (.int .i64 (r : Int)) ∧ w'.cell? ⟨w.heap.size, 2, none⟩ = some (.slice p n c)) (first | exact ⟨hxA _ hd0, hxB _ hd0, hxC _ hd0⟩ | exact ⟨hxA _ hdA, hxB _ hdA, hxC _ hdA⟩ | exact ⟨hxA _ hB9, hxB _ hB9, hxC _ hB9⟩ | exact ⟨hxA _ hB8, hxB _ hB8, hxC _ hB8⟩ | go_keep) (first
          | (refine step_copyI (by rfl) _ _ (by rfl) wr.heap.size (by rfl) hblk (some ad) 0 0 [] (by first | rfl | simp [Act.eval]) rfl (hpc _) (by simp) ?_; intro p9 c9 w9 ho9 hb9; have hB9 : Below wr.heap.size wr w9 := hdA.trans hb9)
          | (go_at_call 20; refine (hst2 w9 p9 c9 hB9 ho9.toV).mono ?_; rintro e w8 ⟨p8, c8, rfl, ho8, hb8⟩; have hB8 : Below wr.heap.size wr w8 := hB9.trans (hb8.mono hB9.size)))
        all_goals
          have hx8 := hxB _ hB8
          have HR := Lib.hid (HX.out.trans (hB8.mono HX.out.size))
          clear hxA hxB hxC hd0 hdA hblk hst2 hpc ho9 hb9 hb8 hB9 hB8 ho8
          go_wp2_with fail
          go_ret
          exact ⟨rfl, HR.out⟩
    · have hdz : ¬ d = 0 := by omega
      clear hnl
      have hpc : ∀ wx : World, IntV wx.heap.size wx (some ad) d [] := fun wx => IntV.empty (by unfold maxLen; omega) (fun e => by first | rfl | cases e)
      go_wp2_with fail
      go_loopw [11] (fun v wr => v = .int .i64 0 ∧ wr = w2) (fun _ _ => 0)
      case atStart => exact ⟨rfl, rfl⟩
      case round =>
        obtain ⟨rfl, rfl⟩ := hrel
        go_wp2_with fail
        go_region_held3 (fun w' => w'.cell? ⟨w.heap.size, 0, none⟩ = some (.int .i64 (k : Int)) ∧ w'.cell? ⟨w.heap.size, 1, none⟩ = some (.int .i64 (r : Int)) ∧ w'.cell? ⟨w.heap.size, 2, none⟩ = some (.slice p n c)) (first | exact ⟨hxA _ hd0, hxB _ hd0, hxC _ hd0⟩ | exact ⟨hxA _ hdA, hxB _ hdA, hxC _ hdA⟩ | exact ⟨hxA _ hB9, hxB _ hB9, hxC _ hB9⟩ | exact ⟨hxA _ hB8, hxB _ hB8, hxC _ hB8⟩ | go_keep) (first
          | (refine step_copyI (by rfl) _ _ (by rfl) wr.heap.size (by rfl) hblk (some ad) 0 d [] (by first | rfl | simp [Act.eval]) rfl (hpc _) (by simp) ?_; intro p9 c9 w9 ho9 hb9; have hB9 : Below wr.heap.size wr w9 := hdA.trans hb9)
          | (go_at_call 20; refine (hst2 w9 p9 c9 hB9 ho9.toV).mono ?_; rintro e w8 ⟨p8, c8, rfl, ho8, hb8⟩; have hB8 : Below wr.heap.size wr w8 := hB9.trans (hb8.mono hB9.size)))
        all_goals
          have hx8 := hxB _ hB8
          have HR := Lib.hid (HX.out.trans (hB8.mono HX.out.size))
          clear hxA hxB hxC hd0 hdA hblk hst2 hpc ho9 hb9 hb8 hB9 hB8 ho8
          go_wp2_with fail
          go_ret
          exact ⟨rfl, HR.out⟩

theorem pieces_any (k r : Int) (p q : Option Addr) (n c m d : Nat) (t l : List Int) (fr tt : Int) (w : World) (A : Nat → Addr) (hr : Roots w A) (hn : n = t.length) (hm : m = l.length) (h : IntV w.heap.size w p c t) (hl : IntV w.heap.size w q d l) :
    Calls Tryd.prog 5 #[.agg #[.int .i64 k, .int .i64 r, .slice p n c], .slice q m d, .int .i64 fr, .int .i64 tt] w (Tells (.bool true) w) := by
  cases hc : chkT k r t l with
  | some x => exact pieces_bad k r p q n c m d t l fr tt w A hr hn hm h hl x.1 x.2 hc
  | none =>
    rcases Nat.lt_or_ge 200 m with h2 | h2
    · exact pieces_long k r p q n c m d t l fr tt w A hr hn hm h hl hc h2
    · obtain ⟨K, R, rfl, rfl, ho, _, hw⟩ := chkT_none hc
      rcases Nat.eq_zero_or_pos m with h0 | h0
      · subst h0
        obtain rfl : l = [] := List.eq_nil_of_length_eq_zero hm.symm
        exact pieces_nil K R p q n c d t fr tt w A hr hn h hl ho
      · exact pieces_ok K R p q n c m d t l fr tt w A hr hn hm h hl ho hw h2 h0
end Go.Proofs.YthafjbegkifekaaDoor
