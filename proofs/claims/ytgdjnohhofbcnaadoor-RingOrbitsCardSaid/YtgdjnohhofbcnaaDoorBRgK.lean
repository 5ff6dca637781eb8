/- The document's own package of rings by its contracts, third part: Image. -/
import Derived.Test.YtgdjnohhofbcnaaDoorBRgJ
namespace Go.Proofs.YtgdjnohhofbcnaaDoor
open Go.RowKit Go.Extern.Stop Go.Stop Go.Extern WordM RuleM NatM

def ImgRel (w0 : World) (m : Nat) (I : List Int) (v7 : Value) (wr : World) : Prop :=
  ∃ i : Nat, i ≤ m ∧ v7 = .int .i64 (i : Int) ∧ IntO w0.heap.size wr (some ⟨w0.heap.size, 0, none⟩) m (I.take i ++ List.replicate (m - i) 0) ∧ Below w0.heap.size w0 wr
def PieRel (wo : World) (K R Q i : Nat) (l : List Int) (v8 v9 : Value) (wr : World) : Prop :=
  ∃ q : Nat, q ≤ Q ∧ v9 = .int .i64 ((q : Int) - (R : Int)) ∧ v8 = .int .i64 ((valW K (pieceW l R i q) : Nat) : Int) ∧ Below wo.heap.size wo wr
set_option maxRecDepth 100000 in
set_option maxHeartbeats 16000000 in
theorem gimage_ref (K R : Nat) (p q : Option Addr) (n c m d : Nat) (t l : List Int) (w : World) (hn : n = t.length) (hm : m = l.length) (h : IntV w.heap.size w p c t) (hl : IntV w.heap.size w q d l) (ho : OkR K R t) (h0 : 0 < m) (hm4 : m ≤ 4096) (hw : okW K l) :
    Calls Tryd.prog 35 #[.agg #[.int .i64 (K : Int), .int .i64 (R : Int), .slice p n c], .slice q m d] w (IntPost w (ringW K R t l)) := by
  have ST := Lib.hid (box_rule w (.int .i64 (K : Int)) (.int .i64 (R : Int)) (.slice p n c))
  have h1 := ho.k1
  have h4 := ho.k4
  have h3 := ho.r3
  have hcap := hl.cap
  have hle := hl.le
  have hcap2 := h.cap
  have hle2 := h.le
  unfold maxLen at hcap hcap2
  have hmd : m ≤ d := by omega
  have hnc : n ≤ c := by omega
  obtain ⟨Q, hQ⟩ : ∃ Q : Nat, 2 * R + 1 = Q := ⟨_, rfl⟩
  have hQ7 : Q ≤ 7 := by omega
  have hnQ : n = K ^ Q := by rw [hn, ho.len, hQ]
  have hn16 : n ≤ 16384 := by rw [hn, ho.len]; exact pow_le h4 h3
  have hIg : ∀ i, i < m → (ringW K R t l)[i]? = some (ent t (valW K (pieceW l R i Q))) := fun i hi => by rw [ring_get (by omega), hQ]
  have hIl := ringW_length K R t l
  obtain ⟨I, hI⟩ : ∃ I, ringW K R t l = I := ⟨_, rfl⟩
  rw [hI] at hIl ⊢
  simp only [hI] at hIg
  have hpl : ∀ i q, q ≤ 7 → valW K (pieceW l R i q) ≤ 16384 := fun i q hq => Nat.le_trans (Nat.le_of_lt (piece_lt (by omega) hw R i q)) (Nat.le_trans (Nat.pow_le_pow_left h4 _) (Nat.le_trans (Nat.pow_le_pow_right (by omega) hq) (by decide)))
  have hpn : ∀ i, valW K (pieceW l R i Q) < n := fun i => by rw [hnQ]; exact piece_lt (by omega) hw R i Q
  have wneg : IntKind.i64.wrap (-(R : Int)) = -(R : Int) := by rw [IntWalk.i64_in _ (by omega)]
  have hmk := makeI m (by omega)
  have hm0 : ¬ (m : Int) = 0 := by omega
  have H := Lib.hid (And.intro hn (And.intro hm (And.intro h (And.intro hl (And.intro hw (And.intro hIg (And.intro (show I.length = m by omega) (And.intro hpl (And.intro hpn hQ)))))))))
  clear hn hm h hl ho hw hle hle2 hIg hIl hI hpl hpn hnQ hQ
  go_enter Tryd.func35, Tryd.ntmps35
  go_upto_region 1 with fail
  obtain ⟨w0, hw0⟩ : ∃ w0, w0 = w.alloc (.cells #[.int .i64 (K : Int), .int .i64 (R : Int), .slice p n c] 24) := ⟨_, rfl⟩
  rw [← hw0]
  obtain ⟨hb0, hE0⟩ := ST.out w0 hw0
  have HE := Lib.hid (And.intro hE0 hb0)
  clear hw0 hE0 hb0
  have hs0 : w.heap.size < w0.heap.size := HE.out.1.lt
  have hmk1 := hmk w0
  have ho0 := IntO.made w0 m (by omega)
  obtain ⟨w1, hw1⟩ : ∃ x, x = w0.alloc (.cells (madeCells #[.int .i64 0] m) 3) := ⟨_, rfl⟩
  have hb1 : Below w0.heap.size w0 w1 := by rw [hw1]; exact (Below.refl _ _).alloc (Nat.le_refl _) _
  rw [← hw1] at hmk1 ho0
  have H1 := Lib.hid (And.intro ho0 hb1)
  clear hmk ho0 hb1 hw1
  go_wp2_with fail
  clear hmk1
  go_loopw [7] (fun v7 wr => ImgRel w0 m I v7 wr) (fun v _ => m - (intOf v).toNat)
  case atStart => exact ⟨0, Nat.zero_le _, rfl, by simpa using H1.out.1, H1.out.2⟩
  case round =>
    obtain ⟨i, hi, rfl, hoi, hb⟩ := hrel
    have HO := Lib.hid (And.intro hoi (And.intro hb (HE.out.2.trans (hb.mono HE.out.2.size))))
    clear hoi hb
    by_cases hlt : i < m
    · obtain ⟨wo, hwo⟩ : ∃ x, x = wr := ⟨_, rfl⟩
      subst hwo
      obtain ⟨_, hc0, hc1, hc2⟩ := (HE.out.1.next HO.out.2.1).facts
      go_wp2_with fail
      go_loopw [8, 9] (fun v8 v9 wr => PieRel wo K R Q i l v8 v9 wr) (fun _ v _ => ((R : Int) + 1 - intOf v).toNat)
      case atStart => exact ⟨0, Nat.zero_le _, by simp, by simp [pieceW, valW], Below.refl _ _⟩
      case round =>
        obtain ⟨q1, hq1, rfl, rfl, hb2⟩ := hrel
        have hQe := H.out.2.2.2.2.2.2.2.2.2
        clear hc0 hc1 hc2
        obtain ⟨_, hc0, hc1, hc2⟩ := ((HE.out.1.next HO.out.2.1).next hb2).facts
        obtain ⟨z, hz⟩ : ∃ z : Int, (q1 : Int) - (R : Int) = z := ⟨_, rfl⟩
        rw [hz]
        have hbw : Below w.heap.size w wr := HO.out.2.2.trans (hb2.mono HO.out.2.2.size)
        by_cases hqQ : q1 < Q
        · have hzR : z ≤ (R : Int) := by omega
          have hz1 : -3 ≤ z := by omega
          have wz1 : IntKind.i64.wrap (z + 1) = z + 1 := by rw [IntWalk.i64_in _ (by omega)]
          obtain ⟨s, hs⟩ : ∃ s, (i + q1 + wrapS l R) % m = s := ⟨_, rfl⟩
          have hsm : s < m := by rw [← hs]; exact Nat.mod_lt _ (by omega)
          have hrp := ref_place (w := l) (n := m) H.out.2.1 (by omega) R i q1
          rw [hs, hz] at hrp
          obtain ⟨zi, hzi⟩ : ∃ zi : Int, (i : Int) + z = zi := ⟨_, rfl⟩
          rw [hzi] at hrp
          have wzi : IntKind.i64.wrap ((i : Int) + z) = zi := by rw [IntWalk.i64_in _ (by omega), hzi]
          obtain ⟨r1, hr1⟩ : ∃ r1, zi.tmod (m : Int) = r1 := ⟨_, rfl⟩
          have hr2 : -(m : Int) < r1 := by rw [← hr1]; exact Int.lt_tmod_of_pos zi (by omega)
          have hr3 : r1 < (m : Int) := by rw [← hr1]; exact Int.tmod_lt_of_pos zi (by omega)
          rw [hr1] at hrp
          have wr1 : IntKind.i64.wrap (r1 + (m : Int)) = r1 + (m : Int) := by rw [IntWalk.i64_in _ (by omega)]
          obtain ⟨b, off, rfl, hbb, hcc⟩ := (H.out.2.2.2.1.next hbw).cell (by have := H.out.2.1; rintro rfl; simp at this; omega)
          have hls : l[s]? = some (F l (i + q1 + wrapS l R)) := by
            have h1 := F_get (w := l) (i := s) (by have := H.out.2.1; omega)
            rw [h1, ← hs, H.out.2.1, F_mod]
          have hyo := F_ok (k := K) (w := l) (by have := H.out.2.1; omega) H.out.2.2.2.2.1 (i + q1 + wrapS l R)
          have hvp := val_piece (k := K) (w := l) R i q1
          obtain ⟨Y, hY⟩ : ∃ Y : Nat, F l (i + q1 + wrapS l R) = (Y : Int) := ⟨(F l (i + q1 + wrapS l R)).toNat, by omega⟩
          rw [hY] at hls hyo hvp
          rw [Int.toNat_natCast] at hvp
          have hcx := hcc s _ hls
          have hv1 := H.out.2.2.2.2.2.2.2.1 i q1 (by omega)
          obtain ⟨V, hV⟩ : ∃ V, valW K (pieceW l R i q1) = V := ⟨_, rfl⟩
          rw [hV] at hvp hv1 ⊢
          obtain ⟨a, ha⟩ : ∃ a, V * K = a := ⟨_, rfl⟩
          have ha16 : a ≤ 16384 * 4 := by rw [← ha]; exact Nat.mul_le_mul hv1 h4
          have wvk : IntKind.i64.wrap ((V : Int) * (K : Int)) = (a : Int) := by rw [show ((V : Int) * (K : Int)) = (a : Int) by rw [← ha]; push_cast; rfl, IntWalk.i64_in _ (by omega)]
          rw [ha] at hvp
          obtain ⟨b', hb'⟩ : ∃ b', a + Y = b' := ⟨_, rfl⟩
          have way : IntKind.i64.wrap ((a : Int) + (Y : Int)) = (b' : Int) := by rw [IntWalk.i64_in _ (by omega)]; omega
          have HS := Lib.hid (And.intro (hvp.symm.trans hb') (And.intro hb2.drew (And.intro (show z + 1 = ((q1 + 1 : Nat) : Int) - (R : Int) by omega) (show q1 + 1 ≤ Q by omega))))
          clear hz hs hr2 hr3 hbb hcc hls hyo hvp hY hV ha hb' hb2 hbw hqQ hq1 hQe hzi
          go_wp2_with fail
          go_region
          go_wp2_with fail
          go_roundw
          case rel => exact ⟨q1 + 1, HS.out.2.2.2, by rw [← HS.out.2.2.1], by rw [HS.out.1], HS.out.2.1⟩
          case measure => simp [intOf]; omega
        · have hzR : ¬ z ≤ (R : Int) := by omega
          obtain rfl : q1 = Q := by omega
          have hIi := H.out.2.2.2.2.2.1 i hlt
          have hZn := H.out.2.2.2.2.2.2.2.2.1 i
          obtain ⟨Z, hZ⟩ : ∃ Z, valW K (pieceW l R i q1) = Z := ⟨_, rfl⟩
          rw [hZ] at hIi hZn ⊢
          have hzt : Z < t.length := by have := H.out.1; omega
          have hg := ent_get hzt
          obtain ⟨b2, off2, rfl, hbb2, hcc2⟩ := (H.out.2.2.1.next hbw).cell (by rintro rfl; simp at hzt)
          have hcz := hcc2 _ _ hg
          obtain ⟨f, hf⟩ : ∃ f, ent t Z = f := ⟨_, rfl⟩
          rw [hf] at hcz hIi
          have hIm := H.out.2.2.2.2.2.2.1
          have hput := put_next hIi hlt
          have hmid := mid_len (l := I) (j := i) (n := m) (by omega) (by omega)
          have ho2 := HO.out.1.next hb2
          obtain ⟨xs, hxs⟩ : ∃ xs, I.take i ++ List.replicate (m - i) (0 : Int) = xs := ⟨_, rfl⟩
          rw [hxs] at ho2 hput hmid
          have hown : wr.ownsRow w0.heap.size 3 1 (.slice (some ⟨w0.heap.size, 0, none⟩) m m) m (cI xs) := by
            unfold IntO at ho2
            rwa [hmid] at ho2
          obtain ⟨y0, hy0⟩ := getI (l := xs) (k := i) (by omega)
          have hcy : wr.cell? ⟨w0.heap.size, i, none⟩ = some (.int .i64 y0) := (hown.cellAt i (by omega)).trans (cI_get hy0)
          have hfy : wr.frozen? ⟨w0.heap.size, i, none⟩ = false := hown.frozenAt i
          obtain ⟨s1, t1'⟩ := hown.stored i (.int .i64 f)
          rw [← cI_set, hput] at s1
          have hb1 : Below w0.heap.size w0 (wr.setCell ⟨w0.heap.size, i, none⟩ (.int .i64 f)) := (HO.out.2.1.trans (hb2.mono HO.out.2.1.size)).setCell (p := ⟨w0.heap.size, i, none⟩) (Nat.le_refl _) _
          have hmid1 := mid_len (l := I) (j := i + 1) (n := m) (by omega) (by omega)
          have HS := Lib.hid (And.intro hb1 (And.intro s1 hmid1))
          clear hz hIi hzt hg hbb2 hcc2 hf hIm hput hmid ho2 hxs hown hy0 s1 t1' hb1 hmid1 hZ hb2 hbw hqQ hq1 hQe
          go_wp2_with fail
          go_roundw
          case rel => exact ⟨i + 1, by omega, by go_num, by unfold IntO; rw [HS.out.2.2]; exact HS.out.2.1, HS.out.1⟩
          case measure => simp [intOf]; omega
    · obtain rfl : i = m := by omega
      have hIu := H.out.2.2.2.2.2.2.1
      have he : I.take i ++ List.replicate (i - i) (0 : Int) = I := by rw [Nat.sub_self, List.replicate_zero, List.append_nil, ← hIu, List.take_length]
      have hoI := HO.out.1
      rw [he] at hoI
      have HF := Lib.hid (And.intro (hoI.base (Nat.le_of_lt hs0)) HO.out.2.2)
      clear he hIu hoI
      go_wp2_with fail
      go_ret
      exact ⟨some ⟨w0.heap.size, 0, none⟩, i, by rw [H.out.2.2.2.2.2.2.1]; rfl, HF.out.1, HF.out.2⟩
end Go.Proofs.YtgdjnohhofbcnaaDoor
