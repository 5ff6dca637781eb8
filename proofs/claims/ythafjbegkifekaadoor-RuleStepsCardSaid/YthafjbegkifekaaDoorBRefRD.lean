/- The document's own package of rules by its contracts: Value, Image. -/
import Derived.Test.YthafjbegkifekaaDoorBRefRA
import Derived.Test.YthafjbegkifekaaDoorBPush
namespace Go.Proofs.YthafjbegkifekaaDoor
open Go.RowKit Go.Extern.Stop Go.Stop Go.Extern WordM RuleM NatM
attribute [local go_sem ↓] Go.wp_at_zero Go.wp_at_succ

set_option maxRecDepth 100000 in
set_option maxHeartbeats 2000000 in
theorem value_ref (k : Nat) (q : Option Addr) (m d : Nat) (l : List Int) (w : World) (h4 : k ≤ 4) (hm : m = l.length) (hl : IntV w.heap.size w q d l) (hw : okW k l) (h7 : m ≤ 7) :
    Calls Tryd.prog 50 #[.int .i64 (k : Int), .slice q m d] w fun e w' => e = .returned (.int .i64 ((valW k l : Nat) : Int)) ∧ w = w' := by
  have hle := hl.le
  have hcap := hl.cap
  unfold maxLen at hcap
  have hmd : m ≤ d := by omega
  have H := Lib.hid (And.intro hl (And.intro hm hw))
  clear hl hm hw hle
  go_enter Tryd.func50, Tryd.ntmps50
  go_wp2_with fail
  go_loop [5, 6] (fun v5 v6 => ∃ j : Nat, j ≤ m ∧ v6 = .int .i64 (j : Int) ∧ v5 = .int .i64 ((valW k (l.take j) : Nat) : Int)) (fun _ v => m - (intOf v).toNat)
  case atStart => exact ⟨0, Nat.zero_le _, rfl, rfl⟩
  case round =>
    obtain ⟨j, hj, rfl, rfl⟩ := hrel
    by_cases hlt : j < m
    · have hml := H.out.2.1
      obtain ⟨b, off, rfl, hb, hc⟩ := H.out.1.cell (by rintro rfl; simp at hml; omega)
      obtain ⟨x, hx⟩ := getI (l := l) (k := j) (by omega)
      have hcx := hc j x hx
      have hxo := H.out.2.2 x (List.mem_of_getElem? hx)
      have hstep := valW_take1 (k := k) hx
      have hv1 := val_small (l := l) (j := j) h4 H.out.2.2 (by omega)
      have hv2 := val_small (l := l) (j := j + 1) h4 H.out.2.2 (by omega)
      obtain ⟨y, rfl⟩ : ∃ y : Nat, x = (y : Int) := ⟨x.toNat, by omega⟩
      rw [Int.toNat_natCast] at hstep
      obtain ⟨v, hv⟩ : ∃ v, valW k (l.take j) = v := ⟨_, rfl⟩
      obtain ⟨z, hz⟩ : ∃ z, valW k (l.take (j + 1)) = z := ⟨_, rfl⟩
      rw [hv] at hstep hv1 ⊢
      rw [hz] at hstep hv2
      obtain ⟨u, hu⟩ : ∃ u, v * k = u := ⟨_, rfl⟩
      have hvk : ((v : Int) * (k : Int)) = (u : Int) := by rw [← hu]; push_cast; rfl
      rw [hu] at hstep
      have wvk : IntKind.i64.wrap ((v : Int) * (k : Int)) = (u : Int) := by rw [hvk, IntWalk.i64_in _ (by omega)]
      have wux : IntKind.i64.wrap ((u : Int) + (y : Int)) = (z : Int) := by rw [IntWalk.i64_in _ (by omega)]; omega
      have HZ := Lib.hid hz
      clear hc hx hv hz hu hvk hstep hml
      go_wp2_with fail
      go_round
      case rel => exact ⟨j + 1, by omega, by go_num, by rw [HZ.out]⟩
      case measure => simp [intOf]; omega
    · obtain rfl : j = m := by omega
      have he : l.take j = l := by rw [H.out.2.1, List.take_length]
      rw [he]
      go_wp2_with fail
      go_ret
      exact ⟨rfl, rfl⟩

def ImgRel (w1 : World) (u : Nat) (I : List Int) (v5 v6 : Value) (wr : World) : Prop :=
  ∃ (j : Nat) (p : Option Addr) (c : Nat), j ≤ u ∧ v6 = .int .i64 (j : Int) ∧ v5 = .slice p j c ∧ IntO w1.heap.size wr p c (I.take j) ∧ Below w1.heap.size w1 wr
set_option maxRecDepth 100000 in
set_option maxHeartbeats 8000000 in
theorem image_ref (k r : Nat) (p q : Option Addr) (n c m d : Nat) (t l : List Int) (w : World) (hn : n = t.length) (hm : m = l.length) (h : IntV w.heap.size w p c t) (hl : IntV w.heap.size w q d l) (ho : OkR k r t) (hm4 : m ≤ 4096) (hw : okW k l) :
    Calls Tryd.prog 49 #[.agg #[.int .i64 (k : Int), .int .i64 (r : Int), .slice p n c], .slice q m d] w (IntPost w (imgW k r t l)) := by
  have h4 := ho.k4
  have h3 := ho.r3
  have hle := hl.le
  have hcap := hl.cap
  unfold maxLen at hcap
  have hmd : m ≤ d := by omega
  have hd63 : d ≤ 9223372036854775807 := by omega
  have hncap := h.cap
  have hnle := h.le
  unfold maxLen at hncap
  have hnc : n ≤ c := by omega
  have hc63 : c ≤ 9223372036854775807 := by omega
  have hil := imgW_length k r t l
  have hig := fun i => @imgW_get k r t l i
  obtain ⟨I, hI⟩ : ∃ I, imgW k r t l = I := ⟨_, rfl⟩
  simp only [hI] at hil hig
  rw [hI]
  obtain ⟨R2, hR2⟩ : ∃ R2 : Nat, 2 * r = R2 := ⟨_, rfl⟩
  rw [hR2] at hil hig
  obtain ⟨u, hu⟩ : ∃ u, I.length = u := ⟨_, rfl⟩
  rw [← hm] at hil hig
  have hum : u ≤ m := by omega
  have hR6 : R2 ≤ 6 := by omega
  have w2r : IntKind.i64.wrap (2 * (r : Int)) = (R2 : Int) := by rw [IntWalk.i64_in _ (by omega)]; omega
  have H := Lib.hid (And.intro hn (And.intro hm (And.intro h (And.intro hl (And.intro hig (And.intro hw (And.intro ho (And.intro hR2 (And.intro hu hil)))))))))
  clear hn hm h hl hig hw ho hR2 hle hcap hI hncap hnle hil hu
  go_enter Tryd.func49, Tryd.ntmps49
  go_upto_region 1 with fail
  obtain ⟨w0, hw0⟩ : ∃ w0, w0 = w.alloc (.cells #[.int .i64 (k : Int), .int .i64 (r : Int), .slice p n c] 24) := ⟨_, rfl⟩
  have hb0 : Below w.heap.size w w0 := by rw [hw0]; exact (Below.refl _ _).alloc (Nat.le_refl _) _
  have hE0 : Rul3 w0 w.heap.size (.int .i64 (k : Int)) (.int .i64 (r : Int)) (.slice p n c) := by rw [hw0]; exact Rul3.new w _ _ _
  rw [← hw0]
  have HE := Lib.hid (And.intro hE0 hb0)
  have hs01 : w.heap.size < w0.heap.size := hE0.lt
  clear hw0 hE0 hb0
  go_wp2_with fail
  go_loopw [5, 6] (fun v5 v6 wr => ImgRel w0 u I v5 v6 wr) (fun _ v _ => u - (intOf v).toNat)
  case atStart => exact ⟨0, none, 0, Nat.zero_le _, rfl, rfl, IntO.nothing _ _, Below.refl _ _⟩
  case round =>
    obtain ⟨i, p5, c5, hi, rfl, rfl, ho5, hb⟩ := hrel
    have hbw := HE.out.2.trans (hb.mono HE.out.2.size)
    have hEr := HE.out.1.next hb
    obtain ⟨_, hc0, hc1, hc2⟩ := hEr.facts
    have wiR : IntKind.i64.wrap ((i : Int) + (R2 : Int)) = (i : Int) + (R2 : Int) := by rw [IntWalk.i64_in _ (by omega)]
    by_cases hlt : i < u
    · have hum2 : i + R2 < m := by have := H.out.2.2.2.2.2.2.2.2; omega
      have hlt' : (i : Int) + (R2 : Int) < (m : Int) := by omega
      obtain ⟨J, hJ⟩ : ∃ J, i + R2 + 1 = J := ⟨_, rfl⟩
      have wJ : IntKind.i64.wrap ((i : Int) + (R2 : Int) + 1) = (J : Int) := by rw [IntWalk.i64_in _ (by omega)]; omega
      have zi0 : (0 : Int) ≤ (i : Int) := by omega
      have ziJ : (i : Int) ≤ (J : Int) := by omega
      have zJd : (J : Int) ≤ (d : Int) := by omega
      have hml := H.out.2.1
      obtain ⟨b, off, rfl, hbb, hcc⟩ := H.out.2.2.2.1.cell (by rintro rfl; simp at hml; omega)
      obtain ⟨X, hX⟩ : ∃ X, win l i (R2 + 1) = X := ⟨_, rfl⟩
      have hXl : J - i = X.length := by rw [← hX, win_length (by omega)]; omega
      have hXo : okW k X := by rw [← hX]; exact win_ok H.out.2.2.2.2.2.1 _ _
      have hIi := H.out.2.2.2.2.1 i (by omega)
      rw [hX] at hIi
      have hzt : valW k X < t.length := by rw [H.out.2.2.2.2.2.2.1.len]; have := valW_lt hXo; rw [← hXl] at this; rw [H.out.2.2.2.2.2.2.2.1, show R2 + 1 = J - i by omega]; exact this
      have hg := ent_get hzt
      obtain ⟨b2, off2, rfl, hb2, hc2'⟩ := H.out.2.2.1.cell (by rintro rfl; simp at hzt)
      have hval : ∀ wx : World, Below wr.heap.size wr wx → Calls Tryd.prog 50 #[.int .i64 (k : Int), .slice (some ⟨b, off + i, none⟩) (J - i) (d - i)] wx fun e w' => e = .returned (.int .i64 ((valW k X : Nat) : Int)) ∧ wx = w' := fun wx hbx => by
        have hv := (((H.out.2.2.2.1.next hbw).next hbx).drop i (by omega)).take (R2 + 1)
        exact value_ref k _ (J - i) (d - i) X wx h4 hXl (by rw [← hX]; exact hv) hXo (by omega)
      have htb : ∀ wx : World, Below wr.heap.size wr wx → wx.cell? ⟨b2, off2 + valW k X, none⟩ = some (.int .i64 (ent t (valW k X))) := fun wx hbx => ((hbw.trans (hbx.mono hbw.size)).cell (p := ⟨b2, off2 + valW k X, none⟩) hb2).trans (hc2' _ _ hg)
      have htb0 : ∀ wx : World, Below w.heap.size w wx → wx.cell? ⟨b2, off2 + valW k X, none⟩ = some (.int .i64 (ent t (valW k X))) := fun wx hbx => (hbx.cell (p := ⟨b2, off2 + valW k X, none⟩) hb2).trans (hc2' _ _ hg)
      obtain ⟨f, hf⟩ : ∃ f, ent t (valW k X) = f := ⟨_, rfl⟩
      obtain ⟨z, hz⟩ : ∃ z, valW k X = z := ⟨_, rfl⟩
      rw [hf] at hIi
      simp only [hf] at htb htb0
      simp only [hz] at hval htb htb0
      have hzn : (z : Int) < (n : Int) := by have := H.out.1; rw [hz] at hzt; omega
      have hzn' : z < n := by omega
      have hxA : ∀ wx : World, Below wr.heap.size wr wx → wx.cell? ⟨w.heap.size, 0, none⟩ = some (.int .i64 (k : Int)) := fun wx hbx => (hEr.next hbx).facts.2.1
      have hxB : ∀ wx : World, Below wr.heap.size wr wx → wx.cell? ⟨w.heap.size, 1, none⟩ = some (.int .i64 (r : Int)) := fun wx hbx => (hEr.next hbx).facts.2.2.1
      have hxC : ∀ wx : World, Below wr.heap.size wr wx → wx.cell? ⟨w.heap.size, 2, none⟩ = some (.slice (some ⟨b2, off2, none⟩) n c) := fun wx hbx => (hEr.next hbx).facts.2.2.2
      have hd0 : Below wr.heap.size wr wr.drew := (Below.refl _ _).drew
      have hdA : Below wr.heap.size wr (wr.drew.alloc (.cells #[.int .i64 f] 3)) := hd0.alloc (Nat.le_refl _) _
      have hblk : (wr.drew.alloc (.cells #[.int .i64 f] 3)).heap[wr.heap.size]? = some (.cells #[.int .i64 f] 3 (0, 0)) := heap_newN wr.drew _
      have hoA : IntO w0.heap.size (wr.drew.alloc (.cells #[.int .i64 f] 3)) p5 c5 (I.take i) := ho5.next hdA
      have hsA : w0.heap.size ≤ (wr.drew.alloc (.cells #[.int .i64 f] 3)).heap.size := Nat.le_trans hb.size hdA.size
      obtain ⟨T, hT⟩ : ∃ T, I.take i = T := ⟨_, rfl⟩
      rw [hT] at hoA
      have hTl : i = T.length := by rw [← hT, List.length_take]; have := H.out.2.2.2.2.2.2.2.2.1; omega
      have hTn : I.take (i + 1) = T ++ [f] := by rw [List.take_add_one, hT, hIi]; rfl
      have hdi : ¬ d = i := by omega
      have hT6 : T.length ≤ 1000000 := by omega
      have HT := Lib.hid (And.intro hTl (And.intro hTn (And.intro hoA (And.intro hsA (And.intro hT6 hblk)))))
      have HB := Lib.hid hb
      clear hbw hEr hb hJ hml hcc hX hIi hXo hf hz hc2' hXl hg hzt ho5 hoA hsA hT hTl hTn hT6 hblk hum2
      go_wp2_with fail
      go_region_held3 (fun w' => w'.cell? ⟨w.heap.size, 0, none⟩ = some (.int .i64 (k : Int)) ∧ w'.cell? ⟨w.heap.size, 1, none⟩ = some (.int .i64 (r : Int)) ∧ w'.cell? ⟨w.heap.size, 2, none⟩ = some (.slice (some ⟨b2, off2, none⟩) n c) ∧ w'.cell? ⟨b2, off2 + z, none⟩ = some (.int .i64 f)) (first | exact ⟨hxA _ hd0, hxB _ hd0, hxC _ hd0, htb _ hd0⟩ | exact ⟨hxA _ hdA, hxB _ hdA, hxC _ hdA, htb _ hdA⟩ | exact ⟨hq0, hq1, hq2, hq3⟩ | go_keep) (first
        | (go_at_call 50; refine (hval _ (by first | assumption | exact Below.refl _ _)).mono ?_; rintro e w8 ⟨rfl, rfl⟩)
        | (refine step_pushI (by rfl) _ _ (by rfl) w0.heap.size p5 i c5 T (by rfl) HT.out.1 HT.out.2.2.1 HT.out.2.2.2.1 wr.heap.size f (by rfl) HT.out.2.2.2.2.2 HT.out.2.2.2.2.1 ?_; intro p9 c9 w9 ho9 hb9; have hB0 : Below w0.heap.size w0 w9 := (HB.out.trans (hdA.mono HB.out.size)).trans hb9; have hB9 : Below w.heap.size w w9 := HE.out.2.trans (hB0.mono HE.out.2.size); obtain ⟨_, hq0, hq1, hq2⟩ := (HE.out.1.next hB0).facts; have hq3 := htb0 _ hB9))
      all_goals
        have HF := Lib.hid (And.intro ho9 hB0)
        clear hxA hxB hxC hd0 hdA htb htb0 hval ho9 hb9 hB0 hB9 hq0 hq1 hq2 hq3
        go_wp2_with fail
        go_roundw
        case rel => exact ⟨i + 1, p9, c9, by omega, by go_num, rfl, by rw [HT.out.2.1]; exact HF.out.1, HF.out.2⟩
        case measure => simp [intOf]; omega
    · obtain rfl : i = u := by omega
      have hge : ¬ (i : Int) + (R2 : Int) < (m : Int) := by have := H.out.2.2.2.2.2.2.2.2; omega
      have he : I.take i = I := by rw [← H.out.2.2.2.2.2.2.2.2.1, List.take_length]
      rw [he] at ho5
      have HF := Lib.hid (And.intro (ho5.base (Nat.le_of_lt hs01)) hbw)
      clear ho5 hbw hb hEr he
      go_wp2_with fail
      go_ret
      exact ⟨p5, c5, by rw [H.out.2.2.2.2.2.2.2.2.1]; rfl, HF.out.1, HF.out.2⟩
end Go.Proofs.YthafjbegkifekaaDoor
