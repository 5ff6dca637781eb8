/- The document's own package of rows by its contracts: At, Piece, after, Equal. -/
import Derived.Test.YtfgoflaeclfggaaDoorB4
import Derived.Test.YtfgoflaeclfggaaDoorB5
namespace Go.Proofs.YtfgoflaeclfggaaDoor
open Go.RowKit Go.Extern.Stop Go.Stop Go.Extern WordM RuleM NatM
attribute [local go_sem ↓] Go.wp_at_zero Go.wp_at_succ
set_option maxRecDepth 100000 in
set_option maxHeartbeats 8000000 in
theorem at_ref07 (a i : Int) (p q s : Option Addr) (n c m d u e : Nat) (L C R : List Int) (w : World) (h : RowV w p q s n c m d u e L C R) (hz : Rsz a n m u) (hi1 : -1099511627776 ≤ i) (hi2 : i ≤ 1099511627776) :
    Calls Tryd.prog 36 #[.agg #[.int .i64 a, .slice p n c, .slice q m d, .slice s u e], .int .i64 i] w (Tells (.int .i64 (rwAt a L C R i)) w) := by
  obtain ⟨a1, a2, n0, u0, n1, m1, u1⟩ := hz
  have hle := h.l.le
  have hle2 := h.c.le
  have hle3 := h.r.le
  obtain ⟨X, hX⟩ : ∃ X, rwAt a L C R i = X := ⟨_, rfl⟩
  rw [hX]
  unfold rwAt at hX
  rw [← h.hn, ← h.hm, ← h.hu] at hX
  by_cases hia : i < a
  · rw [if_pos hia] at hX
    obtain ⟨D, hD⟩ : ∃ D : Nat, a - 1 - i = D := ⟨(a - 1 - i).toNat, by omega⟩
    rw [hD, Int.toNat_natCast] at hX
    have hmod := Nat.mod_lt D n0
    obtain ⟨M, hM⟩ : ∃ M, D % n = M := ⟨_, rfl⟩
    rw [hM] at hX hmod
    have tM : (D : Int).tmod (n : Int) = (M : Int) := by rw [Int.tmod_eq_emod_of_nonneg (by omega), ← Int.natCast_emod, hM]
    obtain ⟨J, hJ⟩ : ∃ J, n - 1 - M = J := ⟨_, rfl⟩
    rw [hJ] at hX
    have w1 : IntKind.i64.wrap (a - 1) = a - 1 := by rw [IntWalk.i64_in _ (by omega)]
    have w2 : IntKind.i64.wrap (a - 1 - i) = (D : Int) := by rw [IntWalk.i64_in _ (by omega)]; omega
    have w3 : IntKind.i64.wrap ((n : Int) - 1) = (n : Int) - 1 := by rw [IntWalk.i64_in _ (by omega)]
    have w4 : IntKind.i64.wrap ((n : Int) - 1 - (M : Int)) = (J : Int) := by rw [IntWalk.i64_in _ (by omega)]; omega
    have hn0 : ¬ (n : Int) = 0 := by omega
    have hJn : J < n := by omega
    have hnc : n ≤ c := by have := h.hn; omega
    obtain ⟨b, off, rfl, hb, hc⟩ := h.l.cell (by have := h.hn; rintro rfl; simp at this; omega)
    have hcx := hc J X (by rw [← hX]; exact ent_get (by have := h.hn; omega))
    have H := Lib.hid (And.intro hb hcx)
    clear hc h hX hM hD hJ hb hcx hle hle2 hle3
    go_enter Tryd.func36, Tryd.ntmps36
    go_upto_region 1 with fail
    obtain ⟨w0, hw0⟩ : ∃ w0, w0 = w.alloc (.cells #[.int .i64 a, .slice (some ⟨b, off, none⟩) n c, .slice q m d, .slice s u e] 24) := ⟨_, rfl⟩
    rw [← hw0]
    obtain ⟨hb0, hE0⟩ := box_row w _ _ _ _ w0 hw0
    obtain ⟨hc0, hc1, hc2, hc3⟩ := hE0.facts
    have hcx : w0.cell? ⟨b, off + J, none⟩ = some (.int .i64 X) := (hb0.cell (p := ⟨b, off + J, none⟩) H.out.1).trans H.out.2
    have HE := Lib.hid hb0
    clear hw0 hE0 hb0
    go_wp2_with fail
    go_ret
    exact ⟨rfl, HE.out⟩
  · rw [if_neg hia] at hX
    obtain ⟨D, hD⟩ : ∃ D : Nat, i - a = D := ⟨(i - a).toNat, by omega⟩
    have w1 : IntKind.i64.wrap (i - a) = (D : Int) := by rw [IntWalk.i64_in _ (by omega)]; omega
    rw [hD, Int.toNat_natCast] at hX
    by_cases hic : D < m
    · rw [if_pos (by omega)] at hX
      have hmd : m ≤ d := by have := h.hm; omega
      obtain ⟨b, off, rfl, hb, hc⟩ := h.c.cell (by have := h.hm; rintro rfl; simp at this; omega)
      obtain ⟨J, rfl⟩ : ∃ J, J = D := ⟨_, rfl⟩
      have hcx := hc J X (by rw [← hX]; exact ent_get (by have := h.hm; omega))
      have H := Lib.hid (And.intro hb hcx)
      clear hc h hX hD hb hcx hle hle2 hle3
      go_enter Tryd.func36, Tryd.ntmps36
      go_upto_region 1 with fail
      obtain ⟨w0, hw0⟩ : ∃ w0, w0 = w.alloc (.cells #[.int .i64 a, .slice p n c, .slice (some ⟨b, off, none⟩) m d, .slice s u e] 24) := ⟨_, rfl⟩
      rw [← hw0]
      obtain ⟨hb0, hE0⟩ := box_row w _ _ _ _ w0 hw0
      obtain ⟨hc0, hc1, hc2, hc3⟩ := hE0.facts
      have hcx : w0.cell? ⟨b, off + J, none⟩ = some (.int .i64 X) := (hb0.cell (p := ⟨b, off + J, none⟩) H.out.1).trans H.out.2
      have HE := Lib.hid hb0
      clear hw0 hE0 hb0
      go_wp2_with fail
      go_ret
      exact ⟨rfl, HE.out⟩
    · rw [if_neg (by omega)] at hX
      obtain ⟨E, hE⟩ : ∃ E, D - m = E := ⟨_, rfl⟩
      rw [hE] at hX
      have w2 : IntKind.i64.wrap ((D : Int) - (m : Int)) = (E : Int) := by rw [IntWalk.i64_in _ (by omega)]; omega
      have hmod := Nat.mod_lt E u0
      obtain ⟨J, hM⟩ : ∃ M, E % u = M := ⟨_, rfl⟩
      rw [hM] at hX hmod
      have tM : (E : Int).tmod (u : Int) = (J : Int) := by rw [Int.tmod_eq_emod_of_nonneg (by omega), ← Int.natCast_emod, hM]
      have hu0 : ¬ (u : Int) = 0 := by omega
      have hue : u ≤ e := by have := h.hu; omega
      obtain ⟨b, off, rfl, hb, hc⟩ := h.r.cell (by have := h.hu; rintro rfl; simp at this; omega)
      have hcx := hc J X (by rw [← hX]; exact ent_get (by have := h.hu; omega))
      have H := Lib.hid (And.intro hb hcx)
      clear hc h hX hM hD hE hb hcx hle hle2 hle3
      go_enter Tryd.func36, Tryd.ntmps36
      go_upto_region 1 with fail
      obtain ⟨w0, hw0⟩ : ∃ w0, w0 = w.alloc (.cells #[.int .i64 a, .slice p n c, .slice q m d, .slice (some ⟨b, off, none⟩) u e] 24) := ⟨_, rfl⟩
      rw [← hw0]
      obtain ⟨hb0, hE0⟩ := box_row w _ _ _ _ w0 hw0
      obtain ⟨hc0, hc1, hc2, hc3⟩ := hE0.facts
      have hcx : w0.cell? ⟨b, off + J, none⟩ = some (.int .i64 X) := (hb0.cell (p := ⟨b, off + J, none⟩) H.out.1).trans H.out.2
      have HE := Lib.hid hb0
      clear hw0 hE0 hb0
      go_wp2_with fail
      go_quiet (fail)
      go_wp2_with fail
      go_ret
      exact ⟨rfl, HE.out.trans ((below_drewN (Below.refl _ _) _).mono HE.out.size)⟩
set_option maxRecDepth 100000 in
set_option maxHeartbeats 8000000 in
theorem piece_ref (a lo : Int) (N : Nat) (p q s : Option Addr) (n c m d u e : Nat) (L C R : List Int) (w : World) (h : RowV w p q s n c m d u e L C R) (hz : Rsz a n m u) (hlo1 : -549755813888 ≤ lo) (hlo2 : lo ≤ 549755813888) (hN2 : N ≤ 549755813888) :
    Calls Tryd.prog 39 #[.agg #[.int .i64 a, .slice p n c, .slice q m d, .slice s u e], .int .i64 lo, .int .i64 (N : Int)] w (IntPost w (pieceR a L C R lo N)) := by
  have hPl := pieceR_length a L C R lo N
  have hPg := fun j => @pieceR_get a L C R lo N j
  obtain ⟨P, hP⟩ : ∃ P, pieceR a L C R lo N = P := ⟨_, rfl⟩
  rw [hP] at hPl ⊢
  simp only [hP] at hPg
  have hmk := makeI N (by omega)
  have H := Lib.hid (And.intro h (And.intro hz (And.intro hPl hPg)))
  clear h hz hPl hPg hP
  go_enter Tryd.func39, Tryd.ntmps39
  go_upto_region 1 with fail
  obtain ⟨w0, hw0⟩ : ∃ w0, w0 = w.alloc (.cells #[.int .i64 a, .slice p n c, .slice q m d, .slice s u e] 24) := ⟨_, rfl⟩
  rw [← hw0]
  obtain ⟨hb0, hE0⟩ := box_row w _ _ _ _ w0 hw0
  have HE := Lib.hid (And.intro hE0 hb0)
  clear hw0 hE0 hb0
  have hs0 : w.heap.size < w0.heap.size := HE.out.1.lt
  have hmk1 := hmk w0
  have ho0 := IntO.made w0 N (by omega)
  obtain ⟨w1, hw1⟩ : ∃ x, x = w0.alloc (.cells (madeCells #[.int .i64 0] N) 3) := ⟨_, rfl⟩
  have hb1 : Below w0.heap.size w0 w1 := by rw [hw1]; exact (Below.refl _ _).alloc (Nat.le_refl _) _
  rw [← hw1] at hmk1 ho0
  have H1 := Lib.hid (And.intro ho0 hb1)
  clear hmk ho0 hb1 hw1
  go_wp2_with fail
  clear hmk1
  go_loopw [8] (fun v wr => CellsRel w0 N P v wr) (fun v _ => N - (intOf v).toNat)
  case atStart => exact ⟨0, Nat.zero_le _, rfl, by simpa using H1.out.1, H1.out.2⟩
  case round =>
    obtain ⟨j, hj, rfl, ho, hb⟩ := hrel
    have hbw : Below w.heap.size w wr := HE.out.2.trans (hb.mono HE.out.2.size)
    by_cases hlt : j < N
    · have hx := H.out.2.2.2 j hlt
      obtain ⟨X, hX⟩ : ∃ X, rwAt a L C R (lo + (j : Int)) = X := ⟨_, rfl⟩
      have wlj : IntKind.i64.wrap (lo + (j : Int)) = lo + (j : Int) := by rw [IntWalk.i64_in _ (by omega)]
      have hcall := at_ref07 a (lo + (j : Int)) p q s n c m d u e L C R wr (H.out.1.next hbw) H.out.2.1 (by omega) (by omega)
      rw [hX] at hcall hx
      have HC := Lib.hid (And.intro hcall hx)
      have HR := Lib.hid (And.intro ho (And.intro hb hbw))
      obtain ⟨hc0, hc1, hc2, hc3⟩ := (HE.out.1.next hb).facts
      clear hcall hx hX ho hb hbw
      go_wp2_with fail
      refine HC.out.1.mono ?_
      rintro e' w2 ⟨rfl, hb2⟩
      have ho2 := HR.out.1.next hb2
      have hbb2 := HR.out.2.1.trans (hb2.mono HR.out.2.1.size)
      have hput := put_next HC.out.2 hlt
      have hmid := mid_len (l := P) (j := j) (n := N) (by have := H.out.2.2.1; omega) (by omega)
      obtain ⟨xs, hxs⟩ : ∃ xs, P.take j ++ List.replicate (N - j) (0 : Int) = xs := ⟨_, rfl⟩
      rw [hxs] at ho2 hput hmid
      have hown : w2.ownsRow w0.heap.size 3 1 (.slice (some ⟨w0.heap.size, 0, none⟩) N N) N (cI xs) := by
        unfold IntO at ho2
        rwa [hmid] at ho2
      obtain ⟨y0, hy0⟩ := getI (l := xs) (k := j) (by omega)
      have hcy : w2.cell? ⟨w0.heap.size, j, none⟩ = some (.int .i64 y0) := (hown.cellAt j (by omega)).trans (cI_get hy0)
      have hfy : w2.frozen? ⟨w0.heap.size, j, none⟩ = false := hown.frozenAt j
      obtain ⟨s1, t1'⟩ := hown.stored j (.int .i64 X)
      rw [← cI_set, hput] at s1
      have hb3 : Below w0.heap.size w0 (w2.setCell ⟨w0.heap.size, j, none⟩ (.int .i64 X)) := hbb2.setCell (p := ⟨w0.heap.size, j, none⟩) (Nat.le_refl _) _
      have hmid1 := mid_len (l := P) (j := j + 1) (n := N) (by have := H.out.2.2.1; omega) (by omega)
      have HS := Lib.hid (And.intro hb3 (And.intro s1 hmid1))
      clear hb2 ho2 hbb2 hput hmid hxs hown hy0 s1 t1' hb3 hmid1 hc0 hc1 hc2 hc3
      go_wp2_with fail
      go_roundw
      case rel => exact ⟨j + 1, by omega, by go_num, by unfold IntO; rw [HS.out.2.2]; exact HS.out.2.1, HS.out.1⟩
      case measure => simp [intOf]; omega
    · obtain rfl : j = N := by omega
      have hPu := H.out.2.2.1
      have he : P.take j ++ List.replicate (j - j) (0 : Int) = P := by rw [Nat.sub_self, List.replicate_zero, List.append_nil, ← hPu, List.take_length]
      rw [he] at ho
      have HF := Lib.hid (And.intro (ho.base (Nat.le_of_lt hs0)) hbw)
      clear ho hb he hbw hPu
      go_wp2_with fail
      go_ret
      exact ⟨some ⟨w0.heap.size, 0, none⟩, j, by rw [H.out.2.2.1]; rfl, HF.out.1, HF.out.2⟩
set_option maxRecDepth 100000 in
set_option maxHeartbeats 16000000 in
theorem after_ref (k r : Nat) (a lo : Int) (N : Nat) (pt : Option Addr) (nt ct : Nat) (t : List Int) (p q s : Option Addr) (n c m d u e : Nat) (L C R : List Int) (w : World) (hnt : nt = t.length) (ht : IntV w.heap.size w pt ct t) (ho : OkR k r t) (h : RowV w p q s n c m d u e L C R) (hw : OkRw k a L C R) (hlo1 : -1048576 ≤ lo) (hlo2 : lo ≤ 1048576) (hN2 : N ≤ 100000) :
    Calls Tryd.prog 68 #[.agg #[.int .i64 (k : Int), .int .i64 (r : Int), .slice pt nt ct], .agg #[.int .i64 a, .slice p n c, .slice q m d, .slice s u e], .int .i64 lo, .int .i64 (N : Int)] w (IntPost w (imgR k r t a L C R lo N)) := by
  have h3 := ho.r3
  obtain ⟨lr, hlr⟩ : ∃ x, lo - (r : Int) = x := ⟨_, rfl⟩
  have w1 : IntKind.i64.wrap (lo - (r : Int)) = lr := by rw [IntWalk.i64_in _ (by omega)]; exact hlr
  have w2r : IntKind.i64.wrap (2 * (r : Int)) = 2 * (r : Int) := by rw [IntWalk.i64_in _ (by omega)]
  obtain ⟨Q, hQ⟩ : ∃ Q, N + 2 * r = Q := ⟨_, rfl⟩
  have wQ : IntKind.i64.wrap ((N : Int) + 2 * (r : Int)) = (Q : Int) := by rw [IntWalk.i64_in _ (by omega)]; omega
  have hTl := pieceR_length a L C R lr Q
  have hTo := pieceR_ok hw lr Q
  have hzs : Rsz a n m u := rsz_of h hw
  have hpc := fun W hW => piece_ref a lr Q p q s n c m d u e L C R W hW hzs (by omega) (by omega) (by omega)
  have hIe : imgR k r t a L C R lo N = imgW k r t (pieceR a L C R lr Q) := by unfold imgR; rw [hlr, hQ]
  have hIl := imgR_length k r t a L C R lo N
  obtain ⟨T, hT⟩ : ∃ T, pieceR a L C R lr Q = T := ⟨_, rfl⟩
  rw [hT] at hTl hTo hpc hIe
  unfold IntPost at hpc
  simp only [hTl] at hpc
  have him : ∀ (W : World) (x : Option Addr) (z : Nat), IntV W.heap.size W pt ct t → IntV W.heap.size W x z T → Calls Tryd.prog 75 #[.agg #[.int .i64 (k : Int), .int .i64 (r : Int), .slice pt nt ct], .slice x Q z] W (IntPost W (imgW k r t T)) := fun W x z hW hx => image_ref k r pt x nt ct Q z t T W hnt hTl.symm hW hx ho (by omega) hTo
  rw [← hIe] at him
  obtain ⟨I, hI⟩ : ∃ I, imgR k r t a L C R lo N = I := ⟨_, rfl⟩
  rw [hI] at him hIl ⊢
  unfold IntPost at him
  simp only [hIl] at him
  have HC := Lib.hid (And.intro hpc him)
  have H := Lib.hid (And.intro ht (And.intro h hIl))
  clear ht h hpc him hI hIe hIl hT hTl hTo hzs ho hw hnt hlr hQ
  go_enter Tryd.func68, Tryd.ntmps68
  go_upto_region 1 with fail
  obtain ⟨w0, hw0⟩ : ∃ w0, w0 = (w.alloc (.cells #[.int .i64 (k : Int), .int .i64 (r : Int), .slice pt nt ct] 53)).alloc (.cells #[.int .i64 a, .slice p n c, .slice q m d, .slice s u e] 24) := ⟨_, rfl⟩
  rw [← hw0]
  obtain ⟨hb0, hE0, hF0⟩ := box_rule_row w _ _ _ _ _ _ _ w0 hw0
  have HE := Lib.hid (And.intro hE0 (And.intro hF0 hb0))
  clear hw0 hE0 hF0 hb0
  have hxA : ∀ wx : World, Below w0.heap.size w0 wx → (wx.cell? ⟨w.heap.size, 0, none⟩ = some (.int .i64 (k : Int)) ∧ wx.cell? ⟨w.heap.size, 1, none⟩ = some (.int .i64 (r : Int)) ∧ wx.cell? ⟨w.heap.size, 2, none⟩ = some (.slice pt nt ct)) ∧ (wx.cell? ⟨w.heap.size + 1, 0, none⟩ = some (.int .i64 a) ∧ wx.cell? ⟨w.heap.size + 1, 1, none⟩ = some (.slice p n c) ∧ wx.cell? ⟨w.heap.size + 1, 2, none⟩ = some (.slice q m d) ∧ wx.cell? ⟨w.heap.size + 1, 3, none⟩ = some (.slice s u e)) := fun wx hb => ⟨(HE.out.1.next hb).facts.2, (HE.out.2.1.next hb).facts⟩
  have hdr : Below w0.heap.size w0 w0.drew := (Below.refl _ _).drew
  go_region_held3 (fun wx => (wx.cell? ⟨w.heap.size, 0, none⟩ = some (.int .i64 (k : Int)) ∧ wx.cell? ⟨w.heap.size, 1, none⟩ = some (.int .i64 (r : Int)) ∧ wx.cell? ⟨w.heap.size, 2, none⟩ = some (.slice pt nt ct)) ∧ (wx.cell? ⟨w.heap.size + 1, 0, none⟩ = some (.int .i64 a) ∧ wx.cell? ⟨w.heap.size + 1, 1, none⟩ = some (.slice p n c) ∧ wx.cell? ⟨w.heap.size + 1, 2, none⟩ = some (.slice q m d) ∧ wx.cell? ⟨w.heap.size + 1, 3, none⟩ = some (.slice s u e))) (first | exact hxA _ (by assumption) | exact hxA _ (Below.refl _ _) | exact hxA _ hdr | go_keep) (first
    | (go_at_call 39; refine (HC.out.1 _ ((H.out.2.1.next HE.out.2.2).next (by first | exact hdr | exact Below.refl _ _))).mono ?_; rintro e' w1 ⟨p1, c1, rfl, o1, hb1⟩; have hB1 : Below w0.heap.size w0 w1 := (by first | exact hdr.trans (hb1.mono hdr.size) | exact hb1))
    | (go_at_call 75; refine (HC.out.2 _ p1 c1 ((H.out.1.next HE.out.2.2).next hB1) o1.toV).mono ?_; rintro e' w2 ⟨p2, c2, rfl, o2, hb2⟩; have hB2 : Below w0.heap.size w0 w2 := hB1.trans (hb2.mono hB1.size)))
  all_goals
    have HF := Lib.hid (And.intro (o2.base (Nat.le_trans HE.out.2.2.size hB1.size)) (HE.out.2.2.trans (hB2.mono HE.out.2.2.size)))
    clear hxA hdr o1 hb1 hB1 o2 hb2 hB2
    go_wp2_with fail
    go_ret
    exact ⟨p2, c2, by rw [H.out.2.2]; rfl, HF.out.1, HF.out.2⟩
def EqRel (w1 : World) (lo : Int) (N : Nat) (f g : Int → Int) (v : Value) (wr : World) : Prop :=
  ∃ j : Nat, j ≤ N ∧ v = .int .i64 (lo + (j : Int)) ∧ (∀ i : Int, lo ≤ i → i < lo + (j : Int) → f i = g i) ∧ Below w1.heap.size w1 wr
set_option maxRecDepth 100000 in
set_option maxHeartbeats 32000000 in
theorem equal_ref (k : Nat) (a a' : Int) (p q s p' q' s' : Option Addr) (n c m d u e n' c' m' d' u' e' : Nat) (L C R L' C' R' : List Int) (w : World) (h : RowV w p q s n c m d u e L C R) (h' : RowV w p' q' s' n' c' m' d' u' e' L' C' R') (hw : OkRw k a L C R) (hw' : OkRw k a' L' C' R') (B : Bool) (hB : B = true ↔ OneR a L C R a' L' C' R') :
    Calls Tryd.prog 49 #[.agg #[.int .i64 a, .slice p n c, .slice q m d, .slice s u e], .agg #[.int .i64 a', .slice p' n' c', .slice q' m' d', .slice s' u' e']] w (Tells (.bool B) w) := by
  have hzs := rsz_of h hw
  have hzs' := rsz_of h' hw'
  have hn1 := hw.l1
  have hn2 := hw'.l1
  have hu1 := hw.r1
  have hu2 := hw'.r1
  have hm1 := hw.c1
  have hm2 := hw'.c1
  rw [← h.hn] at hn1
  rw [← h'.hn] at hn2
  rw [← h.hu] at hu1
  rw [← h'.hu] at hu2
  rw [← h.hm] at hm1
  rw [← h'.hm] at hm2
  have a1 := hw.a1
  have a2 := hw.a2
  have b1 := hw'.a1
  have b2 := hw'.a2
  obtain ⟨lo0, hlo0⟩ : ∃ x, min a a' = x := ⟨_, rfl⟩
  obtain ⟨lo, hlo⟩ : ∃ x, lo0 - 2 * (n : Int) - 2 * (n' : Int) = x := ⟨_, rfl⟩
  obtain ⟨hi0, hhi0⟩ : ∃ x, max (a + (m : Int)) (a' + (m' : Int)) = x := ⟨_, rfl⟩
  obtain ⟨hi, hhi⟩ : ∃ x, hi0 + 2 * (u : Int) + 2 * (u' : Int) = x := ⟨_, rfl⟩
  obtain ⟨N, hN⟩ : ∃ N : Nat, hi - lo = (N : Int) := ⟨(hi - lo).toNat, by omega⟩
  have v1 : IntKind.i64.wrap (2 * (n : Int)) = 2 * (n : Int) := by rw [IntWalk.i64_in _ (by omega)]
  have v2 : IntKind.i64.wrap (2 * (n' : Int)) = 2 * (n' : Int) := by rw [IntWalk.i64_in _ (by omega)]
  have v3 : IntKind.i64.wrap (2 * (u : Int)) = 2 * (u : Int) := by rw [IntWalk.i64_in _ (by omega)]
  have v4 : IntKind.i64.wrap (2 * (u' : Int)) = 2 * (u' : Int) := by rw [IntWalk.i64_in _ (by omega)]
  have v5 : IntKind.i64.wrap (lo0 - 2 * (n : Int)) = lo0 - 2 * (n : Int) := by rw [IntWalk.i64_in _ (by omega)]
  have v6 : IntKind.i64.wrap (lo0 - 2 * (n : Int) - 2 * (n' : Int)) = lo := by rw [IntWalk.i64_in _ (by omega)]; exact hlo
  have v7 : IntKind.i64.wrap (hi0 + 2 * (u : Int)) = hi0 + 2 * (u : Int) := by rw [IntWalk.i64_in _ (by omega)]
  have v8 : IntKind.i64.wrap (hi0 + 2 * (u : Int) + 2 * (u' : Int)) = hi := by rw [IntWalk.i64_in _ (by omega)]; exact hhi
  have v9 : IntKind.i64.wrap (a + (m : Int)) = a + (m : Int) := by rw [IntWalk.i64_in _ (by omega)]
  have v10 : IntKind.i64.wrap (a' + (m' : Int)) = a' + (m' : Int) := by rw [IntWalk.i64_in _ (by omega)]
  have hN2 : N ≤ 200000 := by omega
  have hl1 : -200000 ≤ lo := by omega
  have hl2 : lo ≤ 200000 := by omega
  have hNhi : hi = lo + (N : Int) := by omega
  have hT : (∀ i : Int, lo ≤ i → i < lo + (N : Int) → rwAt a L C R i = rwAt a' L' C' R' i) → B = true := fun hall => hB.2 (by
    refine one_of hw.l0 hw'.l0 hw.r0 hw'.r0 (lo := lo) (hi := hi) ?_ ?_ ?_ ?_ (fun i h1 h2 => hall i h1 (by omega))
    · rw [← h.hn, ← h'.hn]; omega
    · rw [← h.hn, ← h'.hn]; omega
    · rw [← h.hm, ← h.hu, ← h'.hu]; omega
    · rw [← h'.hm, ← h.hu, ← h'.hu]; omega)
  have hF : ∀ i, rwAt a L C R i ≠ rwAt a' L' C' R' i → B = false := fun i hne => by
    cases hb : B with
    | false => rfl
    | true => exact absurd (hB.1 hb i) hne
  have hA1 := fun W hW i h1 h2 => at_ref07 a i p q s n c m d u e L C R W hW hzs h1 h2
  have hA2 := fun W hW i h1 h2 => at_ref07 a' i p' q' s' n' c' m' d' u' e' L' C' R' W hW hzs' h1 h2
  obtain ⟨f, hf⟩ : ∃ f, rwAt a L C R = f := ⟨_, rfl⟩
  obtain ⟨g, hg⟩ : ∃ f, rwAt a' L' C' R' = f := ⟨_, rfl⟩
  rw [hf] at hT hF
  rw [hg] at hT hF
  simp only [hf] at hA1
  simp only [hg] at hA2
  have H := Lib.hid (And.intro h (And.intro h' (And.intro hA1 (And.intro hA2 (And.intro hT (And.intro hF hNhi))))))
  clear h h' hA1 hA2 hT hF hw hw' hzs hzs' hB hf hg hN hlo hhi hn1 hn2 hu1 hu2 hm1 hm2 a1 a2 b1 b2
  go_enter Tryd.func49, Tryd.ntmps49
  go_upto_region 1 with fail
  obtain ⟨w0, hw0⟩ : ∃ w0, w0 = (w.alloc (.cells #[.int .i64 a, .slice p n c, .slice q m d, .slice s u e] 24)).alloc (.cells #[.int .i64 a', .slice p' n' c', .slice q' m' d', .slice s' u' e'] 24) := ⟨_, rfl⟩
  rw [← hw0]
  obtain ⟨hb0, hE0, hF0⟩ := two_rows w _ _ _ _ _ _ _ _ w0 hw0
  have HE := Lib.hid (And.intro hE0 (And.intro hF0 hb0))
  obtain ⟨hc0, hc1, hc2, hc3⟩ := hE0.facts
  obtain ⟨hd0, hd1, hd2, hd3⟩ := hF0.facts
  clear hw0 hE0 hF0 hb0 hNhi
  go_wp2_with fail
  clear hc0 hc1 hc2 hc3 hd0 hd1 hd2 hd3 v1 v2 v3 v4 v5 v6 v7 v8 v9 v10 hlo0 hhi0
  go_loopw [7] (fun v wr => EqRel w0 lo N f g v wr) (fun v _ => (hi - intOf v).toNat)
  case atStart => exact ⟨0, Nat.zero_le _, by simp, fun i h1 h2 => by omega, Below.refl _ _⟩
  case round =>
    obtain ⟨j, hj, rfl, hall, hb⟩ := hrel
    obtain ⟨z, hz⟩ : ∃ z, lo + (j : Int) = z := ⟨_, rfl⟩
    rw [hz] at hall ⊢
    have hNh := H.out.2.2.2.2.2.2
    by_cases hlt : j < N
    · have hzh : z < hi := by omega
      have hz1 : -1000000 ≤ z := by omega
      have hz2 : z ≤ 1000000 := by omega
      have wz : IntKind.i64.wrap (z + 1) = z + 1 := by rw [IntWalk.i64_in _ (by omega)]
      obtain ⟨X, hX⟩ : ∃ X, f z = X := ⟨_, rfl⟩
      obtain ⟨Y, hY⟩ : ∃ X, g z = X := ⟨_, rfl⟩
      have hc1 := fun W hW => H.out.2.2.1 W hW z (by omega) (by omega)
      have hc2 := fun W hW => H.out.2.2.2.1 W hW z (by omega) (by omega)
      rw [hX] at hc1
      rw [hY] at hc2
      have HC := Lib.hid (And.intro hc1 hc2)
      have HJ := Lib.hid (And.intro hall (And.intro hX (And.intro hY hz)))
      have HR := Lib.hid hb
      have hxA : ∀ wx : World, Below wr.heap.size wr wx → (wx.cell? ⟨w.heap.size, 0, none⟩ = some (.int .i64 a) ∧ wx.cell? ⟨w.heap.size, 1, none⟩ = some (.slice p n c) ∧ wx.cell? ⟨w.heap.size, 2, none⟩ = some (.slice q m d) ∧ wx.cell? ⟨w.heap.size, 3, none⟩ = some (.slice s u e)) ∧ (wx.cell? ⟨w.heap.size + 1, 0, none⟩ = some (.int .i64 a') ∧ wx.cell? ⟨w.heap.size + 1, 1, none⟩ = some (.slice p' n' c') ∧ wx.cell? ⟨w.heap.size + 1, 2, none⟩ = some (.slice q' m' d') ∧ wx.cell? ⟨w.heap.size + 1, 3, none⟩ = some (.slice s' u' e')) := fun wx hb => ⟨((HE.out.1.next HR.out).next hb).facts, ((HE.out.2.1.next HR.out).next hb).facts⟩
      have hVx : ∀ wx : World, Below wr.heap.size wr wx → RowV wx p q s n c m d u e L C R ∧ RowV wx p' q' s' n' c' m' d' u' e' L' C' R' := fun wx hb => ⟨((H.out.1.next HE.out.2.2).next HR.out).next hb, ((H.out.2.1.next HE.out.2.2).next HR.out).next hb⟩
      have hdr : Below wr.heap.size wr wr.drew := (Below.refl _ _).drew
      clear hall hb hX hY hz hc1 hc2 hNh
      go_upto_region 6 with fail
      go_region_held3 (fun wx => (wx.cell? ⟨w.heap.size, 0, none⟩ = some (.int .i64 a) ∧ wx.cell? ⟨w.heap.size, 1, none⟩ = some (.slice p n c) ∧ wx.cell? ⟨w.heap.size, 2, none⟩ = some (.slice q m d) ∧ wx.cell? ⟨w.heap.size, 3, none⟩ = some (.slice s u e)) ∧ (wx.cell? ⟨w.heap.size + 1, 0, none⟩ = some (.int .i64 a') ∧ wx.cell? ⟨w.heap.size + 1, 1, none⟩ = some (.slice p' n' c') ∧ wx.cell? ⟨w.heap.size + 1, 2, none⟩ = some (.slice q' m' d') ∧ wx.cell? ⟨w.heap.size + 1, 3, none⟩ = some (.slice s' u' e'))) (first | exact hxA _ (by assumption) | exact hxA _ (Below.refl _ _) | exact hxA _ hdr | go_keep) (first
        | (go_at_call 36; refine (HC.out.2 _ (hVx _ hB1).2).mono ?_; rintro e' w2 ⟨rfl, hb2⟩; have hB2 : Below wr.heap.size wr w2 := hB1.trans (hb2.mono hB1.size))
        | (go_at_call 36; refine (HC.out.1 _ (hVx _ (by first | exact hdr | exact Below.refl _ _)).1).mono ?_; rintro e' w1 ⟨rfl, hb1⟩; have hB1 : Below wr.heap.size wr w1 := (by first | exact hdr.trans (hb1.mono hdr.size) | exact hb1)))
      all_goals
        have HB := Lib.hid (HR.out.trans (hB2.mono HR.out.size))
        clear hxA hVx hdr hb1 hB1 hb2 hB2
        by_cases hxy : X = Y
        · have hx1 : (X != Y) = false := by simp [hxy]
          have HXY := Lib.hid hxy
          clear hxy
          go_wp2_with fail
          go_roundw
          case rel => exact ⟨j + 1, by omega, by have := HJ.out.2.2.2; go_num, fun i h1 h2 => by
            rcases Int.lt_or_le i z with h3 | h3
            · exact HJ.out.1 i h1 h3
            · have := HJ.out.2.2.2
              obtain rfl : i = z := by omega
              rw [HJ.out.2.1, HJ.out.2.2.1, HXY.out], HB.out⟩
          case measure => simp [intOf]; omega
        · have hx1 : (X != Y) = true := by simpa using hxy
          have hbf := H.out.2.2.2.2.2.1 z (by rw [HJ.out.2.1, HJ.out.2.2.1]; exact hxy)
          have HBF := Lib.hid hbf
          clear hxy hbf
          go_wp2_with fail
          go_ret
          exact ⟨by rw [HBF.out]; rfl, HE.out.2.2.trans (HB.out.mono HE.out.2.2.size)⟩
    · obtain rfl : j = N := by omega
      have hbt := H.out.2.2.2.2.1 (fun i h1 h2 => hall i h1 (by omega))
      have HBT := Lib.hid hbt
      have HB := Lib.hid (HE.out.2.2.trans (hb.mono HE.out.2.2.size))
      have hzh : ¬ z < hi := by omega
      clear hall hb hbt hNh hz
      go_wp2_with fail
      go_ret
      exact ⟨by rw [HBT.out]; rfl, HB.out⟩
end Go.Proofs.YtfgoflaeclfggaaDoor
