/- RuleSums: its walk. -/
import Derived.Test.YthafjbegkifekaaDoorB4
import Derived.Test.YthafjbegkifekaaDoorBRefRH
import Derived.Test.YthafjbegkifekaaDoorB3
import Derived.BigRegion
namespace Go.Proofs.YthafjbegkifekaaDoor
open Go.RowKit Go.Extern.Stop Go.Stop Go.Extern WordM RuleM NatM

theorem BlockI.lt {w : World} {g : Nat} {l : List Int} (h : BlockI w g l) : g < w.heap.size := heap_ltN h.eq
theorem BlockI.next {w w' : World} {g : Nat} {l : List Int} (hb : Below w.heap.size w w') (h : BlockI w g l) : BlockI w' g l := (hb.block g h.lt).trans h
theorem BlockI.set {w : World} {g : Nat} {l : List Int} (h : BlockI w g l) (i : Nat) (v : Int) : BlockI (w.setCell ⟨g, i, none⟩ (.int .i64 v)) g (l.set i v) := by
  unfold BlockI
  rw [heap_setCell_same _ g i _ _ _ h]
  congr 2
  rw [← Array.toList_inj]
  simp only [Array.toList_setIfInBounds]
  rw [← cI_set]
theorem BlockI.other {w : World} {g : Nat} {l : List Int} (h : BlockI w g l) (k i : Nat) (hk : g ≠ k) (v : Value) : BlockI (w.setCell ⟨k, i, none⟩ v) g l := (heap_setCell_other w ⟨k, i, none⟩ g v hk).trans h
theorem Rul3.other {w : World} {h : Nat} {a b c : Value} (k : Rul3 w h a b c) (g i : Nat) (hg : h ≠ g) (v : Value) : Rul3 (w.setCell ⟨g, i, none⟩ v) h a b c := ⟨(heap_setCell_other w ⟨g, i, none⟩ h v hg).trans k.heap⟩
theorem BlockI.frozen {w : World} {g : Nat} {l : List Int} (h : BlockI w g l) (i : Nat) : w.frozen? ⟨g, i, none⟩ = false := frozen_of_row w g i _ _ h
theorem BlockI.toV {w : World} {g n : Nat} {l : List Int} (h : BlockI w g l) (hn : l.length = n) (hl : n ≤ 1000000) : IntV w.heap.size w (some ⟨g, 0, none⟩) n l := by
  have := (IntO.of_block (base := 0) (Nat.zero_le _) (by unfold maxLen; omega : l.length ≤ maxLen) h).toV
  rw [hn] at this
  exact this
theorem BlockI.made (w : World) (n : Nat) : BlockI (w.alloc (.cells (madeCells #[.int .i64 0] n) 3)) w.heap.size (List.replicate n 0) := by
  unfold BlockI
  rw [heap_newN]
  congr 2
  rw [← Array.toList_inj, madeI_list]
  simp [cI]
theorem put_zero {T : List Int} {i S : Nat} {v : Int} (hT : T.length = S) (hi : i < S) (y : Int) (x : Int) : (T.take i ++ x :: List.replicate (S - (i + 1)) y).set i v = T.take i ++ v :: List.replicate (S - (i + 1)) y := by
  rw [List.set_append_right _ _ (by rw [List.length_take]; omega), List.length_take, Nat.min_eq_left (by omega), Nat.sub_self]; rfl

theorem row_get {T : List Int} {i S : Nat} {v y : Int} (hT : T.length = S) (hi : i < S) : (T.take i ++ v :: List.replicate (S - (i + 1)) y)[i]? = some v := by
  rw [List.getElem?_append_right (by rw [List.length_take]; omega), List.length_take, Nat.min_eq_left (by omega), Nat.sub_self]; rfl
theorem row_next {T : List Int} {i S : Nat} {v y : Int} (h : T[i]? = some v) : T.take i ++ v :: List.replicate (S - (i + 1)) y = T.take (i + 1) ++ List.replicate (S - (i + 1)) y := by
  rw [List.take_add_one, h, List.append_assoc]; rfl
theorem row_done {T : List Int} {S : Nat} {y : Int} (hT : T.length = S) : T.take S ++ List.replicate (S - S) y = T := by
  rw [Nat.sub_self, List.replicate_zero, List.append_nil, ← hT, List.take_length]
theorem dot_step {fm : Nat → Nat} {X : List Int} {K j s q r u : Nat} (hs : symN X j = s) (hq : fm j = q) (hr : dotN fm X j % K = r) (hu : r + s * q = u) : dotN fm X (j + 1) % K = u % K := by
  unfold dotN
  rw [hs, hq, ← hu, ← hr, Nat.mod_add_mod]

/-- a factor's rest -/
def facV (K : Nat) (z : Int) : Nat := ((z.tmod (K : Int) + (K : Int)).tmod (K : Int)).toNat
theorem fac_in (z : Int) (K : Nat) (hK : 0 < K) (hK2 : K ≤ 4) : ∃ (x : Int) (y : Nat), z.tmod (K : Int) = x ∧ IntKind.i64.wrap (x + (K : Int)) = (y : Int) ∧ (y : Int).tmod (K : Int) = (facV K z : Int) ∧ facV K z < K ∧ -100 ≤ x ∧ x ≤ 100 ∧ y ≤ 100 := by
  obtain ⟨x, hx⟩ : ∃ x, z.tmod (K : Int) = x := ⟨_, rfl⟩
  have h1 : x < (K : Int) := by rw [← hx]; exact Int.tmod_lt_of_pos _ (by omega)
  have h2 : -(K : Int) < x := by rw [← hx]; exact Int.lt_tmod_of_pos _ (by omega)
  obtain ⟨y, hy⟩ : ∃ y : Nat, x + (K : Int) = (y : Int) := ⟨(x + K).toNat, by omega⟩
  have ht : (y : Int).tmod (K : Int) = ((y % K : Nat) : Int) := by rw [Int.tmod_eq_emod_of_nonneg (by omega)]; rfl
  have hf : facV K z = y % K := by unfold facV; rw [hx, hy, ht]; rfl
  refine ⟨x, y, hx, by rw [hy, IntWalk.i64_in _ (by omega)], by rw [hf]; exact ht, by rw [hf]; exact Nat.mod_lt _ hK, by omega, by omega, by omega⟩

def mkN (m : Nat) (f : Nat → Nat) : List Int := (List.range m).map fun i => ((f i : Nat) : Int)
theorem mkN_length (m : Nat) (f : Nat → Nat) : (mkN m f).length = m := by unfold mkN; simp
theorem mkN_get {m : Nat} {f : Nat → Nat} {i : Nat} (h : i < m) : (mkN m f)[i]? = some ((f i : Nat) : Int) := by
  unfold mkN; rw [List.getElem?_map, List.getElem?_range h]; rfl
theorem mkN_ok {m : Nat} {f : Nat → Nat} {K : Nat} (h : ∀ i, f i < K) : okW K (mkN m f) := fun x hx => by
  unfold mkN at hx
  obtain ⟨i, _, rfl⟩ := List.mem_map.1 hx
  have := h i
  omega
theorem mkN_sym (m : Nat) (f : Nat → Nat) (j : Nat) : symN (mkN m f) j = if j < m then f j else 0 := by
  unfold symN
  rw [List.getD_eq_getElem?_getD]
  split
  · next h => rw [mkN_get h]; rfl
  · next h => rw [List.getElem?_eq_none (by rw [mkN_length]; omega)]; rfl
theorem mkN_sum {m K : Nat} {fa fb fc : Nat → Nat} (h : ∀ i, fc i = (fa i + fb i) % K) (j : Nat) : symN (mkN m fc) j = (symN (mkN m fa) j + symN (mkN m fb) j) % K := by
  rw [mkN_sym, mkN_sym, mkN_sym]
  split
  · exact h j
  · simp
theorem rep_open {S i : Nat} {y : Int} (h : i < S) : List.replicate (S - i) y = y :: List.replicate (S - (i + 1)) y := by
  obtain ⟨z, hz⟩ : ∃ z, S - i = z + 1 := ⟨S - i - 1, by omega⟩
  rw [hz, List.replicate_succ, show S - (i + 1) = z by omega]
theorem facV_lt (z : Int) {K : Nat} (hK : 0 < K) (h4 : K ≤ 4) : facV K z < K := by
  obtain ⟨_, _, _, _, _, h, _⟩ := fac_in z K hK h4
  exact h

set_option maxRecDepth 100000 in
set_option maxHeartbeats 4000000 in
theorem sums_bad (k r : Int) (pf q q' : Option Addr) (nf cf m d m' d' : Nat) (w : World) (A : Nat → Addr) (hr : Roots w A) (h : (k < 1 ∨ 4 < k) ∨ r < 0 ∨ 3 < r) :
    Calls Tryd.prog 7 #[.int .i64 k, .int .i64 r, .slice pf nf cf, .slice q m d, .slice q' m' d'] w (Tells (.bool true) w) := by
  have H := Lib.hid (And.intro hr h)
  clear hr h
  go_enter Tryd.func7, Tryd.ntmps7
  go_wp2_with fail
  refine (awakeR w A H.out.1).mono ?_
  rintro e w1 ⟨rfl, hb1⟩
  have H1 := Lib.hid hb1
  clear hb1
  go_wp2_with fail
  refine (size_bad k r w1 A (H.out.1.below H1.out) H.out.2).mono ?_
  rintro e w2 ⟨b, rfl, _, hb2⟩
  have HF := Lib.hid (H1.out.trans (hb2.mono H1.out.size))
  clear hb2
  go_wp2_with fail
  go_ret
  exact ⟨rfl, HF.out⟩
set_option maxRecDepth 100000 in
set_option maxHeartbeats 4000000 in
theorem sums_other (K R : Nat) (pf q q' : Option Addr) (nf cf m d m' d' : Nat) (w : World) (A : Nat → Addr) (hr : Roots w A) (h1 : 1 ≤ K) (h4 : K ≤ 4) (h3 : R ≤ 3) (hm : m ≤ 9223372036854775807) (hm' : m' ≤ 9223372036854775807) (h : m ≠ m' ∨ 200 < m) :
    Calls Tryd.prog 7 #[.int .i64 (K : Int), .int .i64 (R : Int), .slice pf nf cf, .slice q m d, .slice q' m' d'] w (Tells (.bool true) w) := by
  have hsz := fun W => size_ok K R W h1 h4 h3
  obtain ⟨S, hS⟩ : ∃ S, K ^ (2 * R + 1) = S := ⟨_, rfl⟩
  simp only [hS] at hsz
  have H := Lib.hid (And.intro hr hsz)
  clear hr hsz hS
  by_cases hne : m = m'
  · subst hne
    have h2 : 200 < m := by omega
    clear h
    go_enter Tryd.func7, Tryd.ntmps7
    go_wp2_with fail
    refine (awakeR w A H.out.1).mono ?_
    rintro e w1 ⟨rfl, hb1⟩
    have H1 := Lib.hid hb1
    clear hb1
    go_wp2_with fail
    refine (H.out.2 w1).mono ?_
    rintro e w2 ⟨rfl, rfl⟩
    go_wp2_with fail
    go_ret
    exact ⟨rfl, H1.out⟩
  · have hn1 : ((m : Int) == (m' : Int)) = false := by rw [beq_eq_false_iff_ne]; omega
    have hn2 : ((m : Int) != (m' : Int)) = true := by rw [bne, hn1]; rfl
    clear h hne
    go_enter Tryd.func7, Tryd.ntmps7
    go_wp2_with fail
    refine (awakeR w A H.out.1).mono ?_
    rintro e w1 ⟨rfl, hb1⟩
    have H1 := Lib.hid hb1
    clear hb1
    go_wp2_with fail
    refine (H.out.2 w1).mono ?_
    rintro e w2 ⟨rfl, rfl⟩
    go_wp2_with fail
    go_ret
    exact ⟨rfl, H1.out⟩

def OutR (w1 : World) (K R S : Nat) (T : List Int) (v : Value) (wr : World) : Prop :=
  ∃ i : Nat, i ≤ S ∧ v = .int .i64 (i : Int) ∧ BlockI wr w1.heap.size (T.take i ++ List.replicate (S - i) 0) ∧ Rul3 wr (w1.heap.size + 1) (.int .i64 (K : Int)) (.int .i64 (R : Int)) (.slice (some ⟨w1.heap.size, 0, none⟩) S S) ∧ Below w1.heap.size w1 wr
def InR (w1 wX : World) (K R S i J : Nat) (T X : List Int) (fm : Nat → Nat) (v : Value) (wr : World) : Prop :=
  ∃ j : Nat, j ≤ J ∧ v = .int .i64 (j : Int) ∧ BlockI wr w1.heap.size (T.take i ++ ((dotN fm X j % K : Nat) : Int) :: List.replicate (S - (i + 1)) 0) ∧ Rul3 wr (w1.heap.size + 1) (.int .i64 (K : Int)) (.int .i64 (R : Int)) (.slice (some ⟨w1.heap.size, 0, none⟩) S S) ∧ Below w1.heap.size w1 wr ∧ (∀ z, z ≠ w1.heap.size → z < wX.heap.size → wr.heap[z]? = wX.heap[z]?) ∧ wX.heap.size ≤ wr.heap.size
def SumsRel (w5 : World) (u : Nat) (v : Value) (wr : World) : Prop := ∃ i : Nat, i ≤ u ∧ v = .int .i64 (i : Int) ∧ Below w5.heap.size w5 wr
def ThreeR (wS : World) (m : Nat) (a b c : List Int) (v : Value) (wr : World) : Prop :=
  ∃ i : Nat, i ≤ m ∧ v = .int .i64 (i : Int) ∧ BlockI wr wS.heap.size (a.take i ++ List.replicate (m - i) 0) ∧ BlockI wr (wS.heap.size + 1) (b.take i ++ List.replicate (m - i) 0) ∧ BlockI wr (wS.heap.size + 2) (c.take i ++ List.replicate (m - i) 0) ∧ Below wS.heap.size wS wr

set_option maxRecDepth 100000 in
set_option maxHeartbeats 16000000 in
theorem sums_ok (K R : Nat) (pf q q' : Option Addr) (nf cf m d d' : Nat) (F l l' : List Int) (w : World) (A : Nat → Addr) (hr : Roots w A) (h1 : 1 ≤ K) (h4 : K ≤ 4) (h3 : R ≤ 3) (hnf : nf = F.length) (hm : m = l.length) (hm' : m = l'.length) (hF : IntV w.heap.size w pf cf F) (hl : IntV w.heap.size w q d l) (hl' : IntV w.heap.size w q' d' l') (h200 : m ≤ 200) :
    Calls Tryd.prog 7 #[.int .i64 (K : Int), .int .i64 (R : Int), .slice pf nf cf, .slice q m d, .slice q' m d'] w (Tells (.bool true) w) := by
  have hsz := fun W => size_ok K R W h1 h4 h3
  obtain ⟨S, hS⟩ : ∃ S, K ^ (2 * R + 1) = S := ⟨_, rfl⟩
  have hSle := pow_le h4 h3
  simp only [hS] at hsz
  rw [hS] at hSle
  obtain ⟨R2, hR2⟩ : ∃ R2 : Nat, 2 * R = R2 := ⟨_, rfl⟩
  obtain ⟨L, hL⟩ : ∃ L : Nat, R2 + 1 = L := ⟨_, rfl⟩
  have w2r : IntKind.i64.wrap (2 * (R : Int)) = (R2 : Int) := by rw [IntWalk.i64_in _ (by omega)]; omega
  have wL : IntKind.i64.wrap ((R2 : Int) + 1) = (L : Int) := by rw [IntWalk.i64_in _ (by omega)]; omega
  have hfle := hF.le
  have hfcap := hF.cap
  have hlle := hl.le
  have hlcap := hl.cap
  have hlle' := hl'.le
  have hlcap' := hl'.cap
  unfold maxLen at hfcap hlcap hlcap'
  have hnc : nf ≤ cf := by omega
  have hcf : cf ≤ 9223372036854775807 := by omega
  have hmd : m ≤ d := by omega
  have hd63 : d ≤ 9223372036854775807 := by omega
  have hmd' : m ≤ d' := by omega
  have hd63' : d' ≤ 9223372036854775807 := by omega
  obtain ⟨J, hJ⟩ : ∃ J, min L nf = J := ⟨_, rfl⟩
  obtain ⟨fm, hfm⟩ : ∃ fm : Nat → Nat, fm = fun j => facV K (F.getD j 0) := ⟨_, rfl⟩
  obtain ⟨T, hT⟩ : ∃ T, sumT K L S fm J = T := ⟨_, rfl⟩
  have hTl : T.length = S := by rw [← hT, sumT_length]
  have hK0 : ¬ (K : Int) = 0 := by omega
  have hmk := fun W => makeI S (by omega) W
  have hmk2 := fun W => makeI m (by omega) W
  have H := Lib.hid (And.intro hr (And.intro hsz (And.intro hF (And.intro hl (And.intro hl' (And.intro hTl (And.intro hT hS)))))))
  have HN := Lib.hid (And.intro hnf (And.intro hm (And.intro hm' (And.intro hJ (And.intro hfm (And.intro hR2 hL))))))
  have HMK := Lib.hid hmk2
  clear hr hsz hF hl hl' hTl hT hnf hm hm' hJ hfm hR2 hL hfle hfcap hlle hlcap hlle' hlcap' hS hmk2
  go_enter Tryd.func7, Tryd.ntmps7
  go_wp2_with fail
  refine (awakeR w A H.out.1).mono ?_
  rintro e w1 ⟨rfl, hb1⟩
  have H1 := Lib.hid hb1
  clear hb1
  go_wp2_with fail
  refine (H.out.2.1 w1).mono ?_
  rintro e w1' ⟨rfl, rfl⟩
  have hmk1 := hmk w1
  clear hmk
  go_upto_region 7 with fail
  have hbm : Below w1.heap.size w1 (w1.alloc (.cells (madeCells #[.int .i64 0] S) 3)) := (Below.refl _ _).alloc (Nat.le_refl _) _
  have hsm : (w1.alloc (.cells (madeCells #[.int .i64 0] S) 3)).heap.size = w1.heap.size + 1 := by simp
  obtain ⟨wM, hwM⟩ : ∃ x, x = (w1.alloc (.cells (madeCells #[.int .i64 0] S) 3)).alloc (.cells #[.int .i64 (K : Int), .int .i64 (R : Int), .slice (some ⟨w1.heap.size, 0, none⟩) S S] 24) := ⟨_, rfl⟩
  have hbM : Below (w1.alloc (.cells (madeCells #[.int .i64 0] S) 3)).heap.size (w1.alloc (.cells (madeCells #[.int .i64 0] S) 3)) wM := by rw [hwM]; exact (Below.refl _ _).alloc (Nat.le_refl _) _
  have hEM := Rul3.new (w1.alloc (.cells (madeCells #[.int .i64 0] S) 3)) (.int .i64 (K : Int)) (.int .i64 (R : Int)) (.slice (some ⟨w1.heap.size, 0, none⟩) S S)
  rw [← hwM, hsm] at hEM
  rw [← hwM]
  have HM := Lib.hid (And.intro hEM (And.intro ((BlockI.made w1 S).next hbM) (hbm.trans (hbM.mono (by omega)))))
  clear hEM hbM hwM hsm hbm hmk1
  go_wp2_with fail
  go_loopw [14] (fun v wr => OutR w1 K R S T v wr) (fun v _ => S - (intOf v).toNat)
  case atStart => exact ⟨0, Nat.zero_le _, rfl, by simpa using HM.out.2.1, HM.out.1, HM.out.2.2⟩
  case round =>
    obtain ⟨i, hi, rfl, ho, hbx, hb⟩ := hrel
    by_cases hlt : i < S
    · have hdg := digits_ref K L i wr h1 h4 (by have := HN.out.2.2.2.2.2.2; have := HN.out.2.2.2.2.2.1; omega) (by omega)
      have hXl := digW_length K L i
      have hXo := digW_ok h1 L i
      have hTi : T[i]? = some ((dotN fm (digW K L i) J % K : Nat) : Int) := by rw [← H.out.2.2.2.2.2.2.1]; exact sumT_get hlt
      obtain ⟨X, hX⟩ : ∃ X, digW K L i = X := ⟨_, rfl⟩
      rw [hX] at hdg hXl hXo hTi
      have HD := Lib.hid (And.intro hdg (And.intro hXl (And.intro hXo (And.intro hTi (And.intro ho (And.intro hbx hb))))))
      clear hdg hXl hXo hTi ho hbx hb hX
      go_wp2_with fail
      refine HD.out.1.mono ?_
      rintro e wX ⟨pX, cX, rfl, hoX, hbX⟩
      rw [HD.out.2.1]
      have hoXV := hoX.toV
      have hXle := hoXV.le
      have hXcap := hoXV.cap
      unfold maxLen at hXcap
      have hLc : L ≤ cX := by have := HD.out.2.1; omega
      have hcX : cX ≤ 9223372036854775807 := by omega
      have HX := Lib.hid (And.intro hoX (And.intro (HD.out.2.2.2.2.1.next hbX) (And.intro (HD.out.2.2.2.2.2.1.next hbX) (HD.out.2.2.2.2.2.2.trans (hbX.mono HD.out.2.2.2.2.2.2.size)))))
      have hg1r : w1.heap.size + 1 < wr.heap.size := HD.out.2.2.2.2.2.1.lt
      have hrX := hbX.size
      clear hoX hbX hoXV hXle hXcap
      go_wp2_with fail
      go_loopw [16] (fun v wy => InR w1 wX K R S i J T X fm v wy) (fun v _ => J - (intOf v).toNat)
      case atStart =>
        refine ⟨0, Nat.zero_le _, rfl, ?_, HX.out.2.2.1, HX.out.2.2.2, fun _ _ _ => rfl, Nat.le_refl _⟩
        have := HX.out.2.1
        obtain ⟨z, hz⟩ : ∃ z, S - i = z + 1 := ⟨S - i - 1, by omega⟩
        rw [hz, List.replicate_succ] at this
        rw [show S - (i + 1) = z by omega]
        simpa [dotN] using this
      case round =>
        obtain ⟨j, hj, rfl, hrow, hby, hbb, hfar, hsy⟩ := hrel
        by_cases hjl : j < J
        · have hjL : j < L := by have := HN.out.2.2.2.1; omega
          have hjn : j < nf := by have := HN.out.2.2.2.1; omega
          obtain ⟨s0, hs0⟩ := getI (l := X) (k := j) (by have := HD.out.2.1; omega)
          obtain ⟨s, rfl⟩ : ∃ s : Nat, s0 = (s : Int) := ⟨s0.toNat, by have := HD.out.2.2.1 s0 (List.mem_of_getElem? hs0); omega⟩
          have hsK : s < K := by have := HD.out.2.2.1 (s : Int) (List.mem_of_getElem? hs0); omega
          obtain ⟨z, hz⟩ := getI (l := F) (k := j) (by have := HN.out.1; omega)
          obtain ⟨xz, yz, tz1, wz1, tz2, hqK, hxz1, hxz2, hyz⟩ := fac_in z K (by omega) h4
          have hfmj : fm j = facV K z := by
            have := HN.out.2.2.2.2.1
            subst this
            show facV K (F.getD j 0) = _
            rw [List.getD_eq_getElem?_getD, hz]; rfl
          obtain ⟨fq, hfq⟩ : ∃ fq, facV K z = fq := ⟨_, rfl⟩
          rw [hfq] at tz2 hqK hfmj
          obtain ⟨r, hr⟩ : ∃ r, dotN fm X j % K = r := ⟨_, rfl⟩
          have hrK : r < K := by rw [← hr]; exact Nat.mod_lt _ (by omega)
          rw [hr] at hrow
          obtain ⟨sq, hsq⟩ : ∃ sq, s * fq = sq := ⟨_, rfl⟩
          have hsq9 : sq ≤ 16 := by rw [← hsq]; exact Nat.le_trans (Nat.mul_le_mul (by omega : s ≤ 4) (by omega : fq ≤ 4)) (by decide)
          obtain ⟨u, hu⟩ : ∃ u, r + sq = u := ⟨_, rfl⟩
          have w1q : IntKind.i64.wrap ((s : Int) * (fq : Int)) = (sq : Int) := by rw [← Int.natCast_mul, hsq, IntWalk.i64_in _ (by omega)]
          have w2q : IntKind.i64.wrap ((r : Int) + (sq : Int)) = (u : Int) := by rw [IntWalk.i64_in _ (by omega)]; omega
          have hsym : symN X j = s := by unfold symN; rw [List.getD_eq_getElem?_getD, hs0]; rfl
          have hnext := dot_step hsym hfmj hr (by rw [hsq]; exact hu : r + s * fq = u)
          obtain ⟨r', hr'⟩ : ∃ r', u % K = r' := ⟨_, rfl⟩
          rw [hr'] at hnext
          have tu : (u : Int).tmod (K : Int) = (r' : Int) := by rw [Int.tmod_eq_emod_of_nonneg (by omega), ← hr']; rfl
          have hr'4 : r' ≤ 4 := by rw [← hr']; exact Nat.le_of_lt (Nat.lt_of_lt_of_le (Nat.mod_lt _ (by omega)) h4)
          have hTl := H.out.2.2.2.2.2.1
          have hcr : wr.cell? ⟨w1.heap.size, i, none⟩ = some (.int .i64 (r : Int)) := hrow.cell (row_get hTl hlt)
          have hfz : wr.frozen? ⟨w1.heap.size, i, none⟩ = false := hrow.frozen i
          obtain ⟨_, hc0, hc1, hc2⟩ := hby.facts
          obtain ⟨bF, oF, rfl, _, hFc⟩ := ((H.out.2.2.1.next H1.out).next hbb).cell (by rintro rfl; simp at hz)
          have hcz : wr.cell? ⟨bF, oF + j, none⟩ = some (.int .i64 z) := hFc j z hz
          rcases own_shape HX.out.1 with ⟨_, h0, _⟩ | ⟨gX, cap, hvX, hgX, hltX, _, _, hclX, _⟩
          · exact absurd h0 (by have := HD.out.2.1; omega)
          · obtain ⟨rfl, rfl⟩ : pX = some ⟨gX, 0, none⟩ ∧ cX = cap := by simpa using hvX
            have hcx : wr.cell? ⟨gX, j, none⟩ = some (.int .i64 (s : Int)) := (World.cell?_of_block (a := ⟨gX, j, none⟩) (hfar gX (by omega) hltX)).trans ((hclX j (by have := HD.out.2.1; omega)).trans (cI_get hs0))
            have hn1 := hrow.set i (r' : Int)
            rw [put_zero hTl hlt] at hn1
            have hn2 := hby.other w1.heap.size i (by omega) (.int .i64 (r' : Int))
            have hn3 := hbb.setCell (p := ⟨w1.heap.size, i, none⟩) (Nat.le_refl _) (.int .i64 (r' : Int))
            have hn4 : ∀ z, z ≠ w1.heap.size → z < wX.heap.size → (wr.setCell ⟨w1.heap.size, i, none⟩ (.int .i64 (r' : Int))).heap[z]? = wX.heap[z]? := fun z hz1 hz2 => (Below.heap_setCell wr ⟨w1.heap.size, i, none⟩ _ z hz1).trans (hfar z hz1 hz2)
            have hn5 : wX.heap.size ≤ (wr.setCell ⟨w1.heap.size, i, none⟩ (.int .i64 (r' : Int))).heap.size := by simpa [World.setCell] using hsy
            have HS := Lib.hid (And.intro hn1 (And.intro hn2 (And.intro hn3 (And.intro hn4 (And.intro hn5 hnext)))))
            clear hn1 hn2 hn3 hn4 hn5 hnext hrow hby hbb hfar hsy hs0 hz hfmj hfq hr hsq hu hsym hr' hTl hFc hvX hgX hltX hclX
            go_wp2_with fail
            go_region
            go_wp2_with fail
            go_roundw
            case rel => exact ⟨j + 1, by omega, by go_num, by rw [HS.out.2.2.2.2.2]; exact HS.out.1, ⟨HS.out.2.1.heap⟩, HS.out.2.2.1.drew, HS.out.2.2.2.1, HS.out.2.2.2.2.1⟩
            case measure => simp [intOf]; omega
        · obtain rfl : j = J := by omega
          have hrow2 := (row_next HD.out.2.2.2.1).symm ▸ hrow
          have HS := Lib.hid (And.intro hrow2 (And.intro hby hbb))
          clear hrow2 hrow hby hbb hfar hsy
          rcases (by have := HN.out.2.2.2.1; omega : (¬ j < L) ∨ (j < L ∧ ¬ j < nf)) with h5 | ⟨h5, h6⟩
          all_goals
            go_wp2_with fail
            go_roundw
            case rel => exact ⟨i + 1, by omega, by go_num, HS.out.1, HS.out.2.1, HS.out.2.2⟩
            case measure => simp [intOf]; omega
    · obtain rfl : i = S := by omega
      rw [row_done H.out.2.2.2.2.2.1] at ho
      have HT := Lib.hid (And.intro ho (And.intro hbx hb))
      clear ho hbx hb
      obtain ⟨wo, rfl⟩ : ∃ wo, wo = wr := ⟨_, rfl⟩
      have hma := HMK.out wo
      have hba : Below wo.heap.size wo (wo.alloc (.cells (madeCells #[.int .i64 0] m) 3)) := (Below.refl _ _).alloc (Nat.le_refl _) _
      have hBa := BlockI.made wo m
      obtain ⟨wa, hwa⟩ : ∃ x, x = wo.alloc (.cells (madeCells #[.int .i64 0] m) 3) := ⟨_, rfl⟩
      have hsa : wa.heap.size = wo.heap.size + 1 := by rw [hwa]; simp
      rw [← hwa] at hma hba hBa
      have hmb := HMK.out wa
      have hbb : Below wa.heap.size wa (wa.alloc (.cells (madeCells #[.int .i64 0] m) 3)) := (Below.refl _ _).alloc (Nat.le_refl _) _
      have hBb := BlockI.made wa m
      obtain ⟨wb, hwb⟩ : ∃ x, x = wa.alloc (.cells (madeCells #[.int .i64 0] m) 3) := ⟨_, rfl⟩
      have hsb : wb.heap.size = wo.heap.size + 2 := by rw [hwb]; simp; omega
      rw [← hwb] at hmb hbb hBb
      have hmc := HMK.out wb
      have hbc : Below wb.heap.size wb (wb.alloc (.cells (madeCells #[.int .i64 0] m) 3)) := (Below.refl _ _).alloc (Nat.le_refl _) _
      have hBc := BlockI.made wb m
      obtain ⟨wS, hwS⟩ : ∃ x, x = wb.alloc (.cells (madeCells #[.int .i64 0] m) 3) := ⟨_, rfl⟩
      rw [← hwS] at hmc hbc hBc
      have hBa2 := (hBa.next hbb).next hbc
      have hBb2 := hBb.next hbc
      have hbS : Below wo.heap.size wo wS := (hba.trans (hbb.mono (by omega))).trans (hbc.mono (by omega))
      rw [hsa] at hmb hBb2
      rw [hsb] at hmc hBc
      have HS := Lib.hid (And.intro hBa2 (And.intro hBb2 (And.intro hBc hbS)))
      clear hBa2 hBb2 hBc hbS hwa hwb hwS hba hbb hbc hBa hBb hsa hsb
      go_upto_region 18 with fail
      clear hma hmb hmc
      obtain ⟨fa, hfa⟩ : ∃ fa : Nat → Nat, fa = fun i => facV K (l.getD i 0) := ⟨_, rfl⟩
      obtain ⟨fb, hfb⟩ : ∃ fb : Nat → Nat, fb = fun i => facV K (l'.getD i 0) := ⟨_, rfl⟩
      obtain ⟨fc, hfc⟩ : ∃ fc : Nat → Nat, fc = fun i => (fa i + fb i) % K := ⟨_, rfl⟩
      have HW := Lib.hid (And.intro hfa (And.intro hfb hfc))
      clear hfa hfb hfc
      go_wp2_with fail
      go_loopw [20] (fun v wy => ThreeR wo m (mkN m fa) (mkN m fb) (mkN m fc) v wy) (fun v _ => m - (intOf v).toNat)
      case atStart => exact ⟨0, Nat.zero_le _, rfl, by simpa using HS.out.1, by simpa using HS.out.2.1, by simpa using HS.out.2.2.1, HS.out.2.2.2⟩
      case round =>
        obtain ⟨i2, hi2, rfl, hra, hrb, hrc, hbz⟩ := hrel
        by_cases hlt2 : i2 < m
        · have hG : w.heap.size ≤ wo.heap.size := Nat.le_trans H1.out.size HT.out.2.2.size
          have hbw := (H1.out.trans (HT.out.2.2.mono H1.out.size)).trans (hbz.mono hG)
          obtain ⟨za, hza⟩ := getI (l := l) (k := i2) (by have := HN.out.2.1; omega)
          obtain ⟨zb, hzb⟩ := getI (l := l') (k := i2) (by have := HN.out.2.2.1; omega)
          obtain ⟨xa, ya, ta1, wa1, ta2, hqa, hxa1, hxa2, hya⟩ := fac_in za K (by omega) h4
          obtain ⟨xb, yb, tb1, wb1, tb2, hqb, hxb1, hxb2, hyb⟩ := fac_in zb K (by omega) h4
          have hfai : fa i2 = facV K za := by
            have := HW.out.1
            subst this
            show facV K (l.getD i2 0) = _
            rw [List.getD_eq_getElem?_getD, hza]; rfl
          have hfbi : fb i2 = facV K zb := by
            have := HW.out.2.1
            subst this
            show facV K (l'.getD i2 0) = _
            rw [List.getD_eq_getElem?_getD, hzb]; rfl
          have hfci : fc i2 = (fa i2 + fb i2) % K := by
            have := HW.out.2.2
            subst this
            rfl
          obtain ⟨qa, hqa'⟩ : ∃ qa, facV K za = qa := ⟨_, rfl⟩
          obtain ⟨qb, hqb'⟩ : ∃ qb, facV K zb = qb := ⟨_, rfl⟩
          rw [hqa'] at ta2 hqa hfai
          rw [hqb'] at tb2 hqb hfbi
          rw [hfai, hfbi] at hfci
          obtain ⟨u, hu⟩ : ∃ u, qa + qb = u := ⟨_, rfl⟩
          obtain ⟨qc, hqc⟩ : ∃ qc, u % K = qc := ⟨_, rfl⟩
          rw [hu, hqc] at hfci
          have wab : IntKind.i64.wrap ((qa : Int) + (qb : Int)) = (u : Int) := by rw [IntWalk.i64_in _ (by omega)]; omega
          have tu : (u : Int).tmod (K : Int) = (qc : Int) := by rw [Int.tmod_eq_emod_of_nonneg (by omega), ← hqc]; rfl
          rw [rep_open hlt2] at hra hrb hrc
          have hla := mkN_length m fa
          have hlb := mkN_length m fb
          have hlc := mkN_length m fc
          obtain ⟨b1, o1, rfl, hb1, hc1⟩ := H.out.2.2.2.1.cell (by rintro rfl; simp at hza)
          obtain ⟨b2, o2, rfl, hb2, hc2⟩ := H.out.2.2.2.2.1.cell (by rintro rfl; simp at hzb)
          have hca : wr.cell? ⟨b1, o1 + i2, none⟩ = some (.int .i64 za) := (hbw.cell (p := ⟨b1, o1 + i2, none⟩) hb1).trans (hc1 i2 za hza)
          have hfza := hra.frozen i2
          have hcA0 := hra.cell (row_get hla hlt2)
          obtain ⟨wA, hwA⟩ : ∃ x, x = wr.setCell ⟨wo.heap.size, i2, none⟩ (.int .i64 (qa : Int)) := ⟨_, rfl⟩
          have hraA := hra.set i2 (qa : Int)
          have hrbA := hrb.other wo.heap.size i2 (by omega) (.int .i64 (qa : Int))
          have hrcA := hrc.other wo.heap.size i2 (by omega) (.int .i64 (qa : Int))
          have hbA := hbz.setCell (p := ⟨wo.heap.size, i2, none⟩) (Nat.le_refl _) (.int .i64 (qa : Int))
          rw [put_zero hla hlt2] at hraA
          rw [← hwA] at hraA hrbA hrcA hbA
          have hbwA := (H1.out.trans (HT.out.2.2.mono H1.out.size)).trans (hbA.mono hG)
          have hcb : wA.cell? ⟨b2, o2 + i2, none⟩ = some (.int .i64 zb) := (hbwA.cell (p := ⟨b2, o2 + i2, none⟩) hb2).trans (hc2 i2 zb hzb)
          have hfzb := hrbA.frozen i2
          have hcB0 := hrbA.cell (row_get hlb hlt2)
          obtain ⟨wB, hwB⟩ : ∃ x, x = wA.setCell ⟨wo.heap.size + 1, i2, none⟩ (.int .i64 (qb : Int)) := ⟨_, rfl⟩
          have hraB := hraA.other (wo.heap.size + 1) i2 (by omega) (.int .i64 (qb : Int))
          have hrbB := hrbA.set i2 (qb : Int)
          have hrcB := hrcA.other (wo.heap.size + 1) i2 (by omega) (.int .i64 (qb : Int))
          have hbB := hbA.setCell (p := ⟨wo.heap.size + 1, i2, none⟩) (Nat.le_succ _) (.int .i64 (qb : Int))
          rw [put_zero hlb hlt2] at hrbB
          rw [← hwB] at hraB hrbB hrcB hbB
          have hcA := hraB.cell (row_get hla hlt2)
          have hcB := hrbB.cell (row_get hlb hlt2)
          have hfzc := hrcB.frozen i2
          have hcC := hrcB.cell (row_get hlc hlt2)
          have hraC := hraB.other (wo.heap.size + 2) i2 (by omega) (.int .i64 (qc : Int))
          have hrbC := hrbB.other (wo.heap.size + 2) i2 (by omega) (.int .i64 (qc : Int))
          have hrcC := hrcB.set i2 (qc : Int)
          rw [put_zero hlc hlt2] at hrcC
          have hbC := hbB.setCell (p := ⟨wo.heap.size + 2, i2, none⟩) (Nat.le_add_right _ 2) (.int .i64 (qc : Int))
          rw [row_next (T := mkN m fa) (i := i2) (S := m) (v := (qa : Int)) (y := 0) ((mkN_get hlt2).trans (by rw [hfai]))] at hraC
          rw [row_next (T := mkN m fb) (i := i2) (S := m) (v := (qb : Int)) (y := 0) ((mkN_get hlt2).trans (by rw [hfbi]))] at hrbC
          rw [row_next (T := mkN m fc) (i := i2) (S := m) (v := (qc : Int)) (y := 0) ((mkN_get hlt2).trans (by rw [hfci]))] at hrcC
          have HB2 := Lib.hid (And.intro hcb (And.intro hcB0 hfzb))
          have HC2 := Lib.hid (And.intro hcA (And.intro hcB (And.intro hcC hfzc)))
          have HR2 := Lib.hid (And.intro hraC (And.intro hrbC (And.intro hrcC hbC)))
          clear hraC hrbC hrcC hbC hcA hcB hcC hfzc hraB hrbB hrcB hbB hcb hcB0 hfzb hraA hrbA hrcA hbA hbwA hra hrb hrc hbz hbw hza hzb hfai hfbi hfci hu hqc hla hlb hlc hc1 hc2 hqa' hqb'
          go_upto_region 22 with fail
          rw [← hwA]
          clear hca hcA0 hfza hwA
          obtain ⟨hcb, hcB0, hfzb⟩ := HB2.out
          go_upto_region 23 with fail
          rw [← hwB]
          clear hcb hcB0 hfzb hwB
          obtain ⟨hcA, hcB, hcC, hfzc⟩ := HC2.out
          go_region
          go_wp2_with fail
          go_roundw
          case rel => exact ⟨i2 + 1, by omega, by go_num, HR2.out.1, HR2.out.2.1, HR2.out.2.2.1, HR2.out.2.2.2.drew⟩
          case measure => simp [intOf]; omega
        · obtain rfl : i2 = m := by omega
          rw [row_done (mkN_length _ _)] at hra hrb hrc
          have hG : w.heap.size ≤ wo.heap.size := Nat.le_trans H1.out.size HT.out.2.2.size
          have hbw := (H1.out.trans (HT.out.2.2.mono H1.out.size)).trans (hbz.mono hG)
          have HZ := Lib.hid (And.intro hra (And.intro hrb (And.intro hrc (And.intro (HT.out.1.next hbz) (And.intro (HT.out.2.1.next hbz) hbw)))))
          clear hra hrb hrc hbz hbw
          have hTl := H.out.2.2.2.2.2.1
          have hok : OkR K R T := ⟨h1, h4, h3, by rw [hTl, H.out.2.2.2.2.2.2.2], by rw [← H.out.2.2.2.2.2.2.1]; exact sumT_ok h1⟩
          have hfaK : ∀ i, fa i < K := fun i => by rw [HW.out.1]; exact facV_lt _ (by omega) h4
          have hfbK : ∀ i, fb i < K := fun i => by rw [HW.out.2.1]; exact facV_lt _ (by omega) h4
          have hfcK : ∀ i, fc i < K := fun i => by rw [HW.out.2.2]; exact Nat.mod_lt _ (by omega)
          have hst := fun (W : World) (f : Nat → Nat) (g : Nat) (hf : ∀ i, f i < K) (hW : BlockI W w1.heap.size T) (hW' : BlockI W g (mkN i2 f)) => step_ok (K : Int) (R : Int) (some ⟨w1.heap.size, 0, none⟩) (some ⟨g, 0, none⟩) i i i2 i2 T (mkN i2 f) W hTl.symm (mkN_length i2 f).symm (hW.toV hTl (by omega)) (hW'.toV (mkN_length i2 f) (by omega)) (chkT_ok hok (by rw [mkN_length]; omega) (mkN_ok hf))
          simp only [Int.toNat_natCast] at hst
          obtain ⟨u, hu⟩ : ∃ u, i2 - R2 = u := ⟨_, rfl⟩
          have hu63 : u ≤ 9223372036854775807 := by omega
          have hil := fun f => imgW_length K R T (mkN i2 f)
          simp only [mkN_length, HN.out.2.2.2.2.2.1, hu] at hil
          have hT' : sumT K (2 * R + 1) (K ^ (2 * R + 1)) fm J = T := by rw [H.out.2.2.2.2.2.2.2, HN.out.2.2.2.2.2.1, HN.out.2.2.2.2.2.2]; exact H.out.2.2.2.2.2.2.1
          have hsum := fun (x : Nat) (hx : x < u) => img_sum (K := K) (R := R) (fm := fm) (J := J) h1 (by have := HN.out.2.2.2.1; have := HN.out.2.2.2.2.2.1; have := HN.out.2.2.2.2.2.2; omega) (mkN_ok (m := i2) hfaK) (mkN_ok (m := i2) hfbK) (mkN_ok (m := i2) hfcK) (by rw [mkN_length, mkN_length]) (by rw [mkN_length, mkN_length]) (mkN_sum (fun y => by rw [HW.out.2.2])) (i := x) (by rw [mkN_length]; have := HN.out.2.2.2.2.2.1; omega)
          rw [hT'] at hsum
          have sta := fun W hW hW' => hst W fa wo.heap.size hfaK hW hW'
          have stb := fun W hW hW' => hst W fb (wo.heap.size + 1) hfbK hW hW'
          have stc := fun W hW hW' => hst W fc (wo.heap.size + 2) hfcK hW hW'
          have hla := hil fa
          have hlb := hil fb
          have hlc := hil fc
          obtain ⟨Ia, hIa⟩ : ∃ I, imgW K R T (mkN i2 fa) = I := ⟨_, rfl⟩
          obtain ⟨Ib, hIb⟩ : ∃ I, imgW K R T (mkN i2 fb) = I := ⟨_, rfl⟩
          obtain ⟨Ic, hIc⟩ : ∃ I, imgW K R T (mkN i2 fc) = I := ⟨_, rfl⟩
          simp only [hIa] at sta hla
          simp only [hIb] at stb hlb
          simp only [hIc] at stc hlc
          simp only [hIa, hIb, hIc] at hsum
          have HST := Lib.hid (And.intro sta (And.intro stb (And.intro stc (And.intro hla (And.intro hlb (And.intro hlc hsum))))))
          clear sta stb stc hla hlb hlc hsum hIa hIb hIc hT' hil hst hok hfaK hfbK hfcK hTl hu
          obtain ⟨_, hc0, hc1, hc2⟩ := HZ.out.2.2.2.2.1.facts
          go_wp2_with fail
          refine (HST.out.1 wr HZ.out.2.2.2.1 HZ.out.1).mono ?_
          rintro e w3 ⟨p3, c3, rfl, ho3, hb3⟩
          rw [HST.out.2.2.2.1]
          clear hc0 hc1 hc2
          have H3 := Lib.hid (And.intro hb3 ho3)
          clear hb3 ho3
          obtain ⟨_, hc0, hc1, hc2⟩ := (HZ.out.2.2.2.2.1.next H3.out.1).facts
          go_wp2_with fail
          refine (HST.out.2.1 w3 (HZ.out.2.2.2.1.next H3.out.1) (HZ.out.2.1.next H3.out.1)).mono ?_
          rintro e w4 ⟨p4, c4, rfl, ho4, hb4⟩
          rw [HST.out.2.2.2.2.1]
          clear hc0 hc1 hc2
          have H4 := Lib.hid (And.intro (H3.out.1.trans (hb4.mono H3.out.1.size)) (And.intro (H3.out.2.next hb4) ho4))
          clear hb4 ho4
          obtain ⟨_, hc0, hc1, hc2⟩ := (HZ.out.2.2.2.2.1.next H4.out.1).facts
          go_wp2_with fail
          refine (HST.out.2.2.1 w4 (HZ.out.2.2.2.1.next H4.out.1) (HZ.out.2.2.1.next H4.out.1)).mono ?_
          rintro e w5 ⟨p5, c5, rfl, ho5, hb5⟩
          rw [HST.out.2.2.2.2.2.1]
          clear hc0 hc1 hc2
          have H5 := Lib.hid (And.intro (HZ.out.2.2.2.2.2.trans ((H4.out.1.trans (hb5.mono H4.out.1.size)).mono HZ.out.2.2.2.2.2.size)) (And.intro ((H4.out.2.1.next hb5).toV) (And.intro ((H4.out.2.2.next hb5).toV) ho5.toV)))
          clear hb5 ho5
          go_wp2_with fail
          go_loopw [26] (fun v wz => SumsRel w5 u v wz) (fun v _ => u - (intOf v).toNat)
          case atStart => exact ⟨0, Nat.zero_le _, rfl, Below.refl _ _⟩
          case round =>
            obtain ⟨i3, hi3, rfl, hb9⟩ := hrel
            by_cases hlt3 : i3 < u
            · obtain ⟨x, y, zz, hx, hy, hz, hxK, hyK, hzz⟩ := HST.out.2.2.2.2.2.2 i3 hlt3
              obtain ⟨b1, o1, rfl, _, hc1⟩ := (H5.out.2.1.next hb9).cell (by rintro rfl; simp at hx)
              obtain ⟨b2, o2, rfl, _, hc2⟩ := (H5.out.2.2.1.next hb9).cell (by rintro rfl; simp at hy)
              obtain ⟨b3, o3, rfl, _, hc3⟩ := (H5.out.2.2.2.next hb9).cell (by rintro rfl; simp at hz)
              have hcx := hc1 i3 _ hx
              have hcy := hc2 i3 _ hy
              have hcz := hc3 i3 _ hz
              obtain ⟨s, hs⟩ : ∃ s, x + y = s := ⟨_, rfl⟩
              have ws : IntKind.i64.wrap ((x : Int) + (y : Int)) = (s : Int) := by rw [IntWalk.i64_in _ (by omega)]; omega
              have ts : (s : Int).tmod (K : Int) = (zz : Int) := by rw [Int.tmod_eq_emod_of_nonneg (by omega), hzz, hs]; rfl
              have HQ := Lib.hid hb9
              clear hb9 hx hy hz hzz hs hc1 hc2 hc3
              go_wp2_with fail
              go_region
              all_goals
                go_wp2_with fail
                go_roundw
                case rel => exact ⟨i3 + 1, by omega, by go_num, HQ.out.drew⟩
                case measure => simp [intOf]; omega
            · obtain rfl : i3 = u := by omega
              have HQ := Lib.hid (H5.out.1.trans (hb9.mono H5.out.1.size))
              clear hb9
              go_wp2_with fail
              go_ret
              exact ⟨rfl, HQ.out⟩
theorem sums_any (k r : Int) (pf q q' : Option Addr) (nf cf m d m' d' : Nat) (F l l' : List Int) (w : World) (A : Nat → Addr) (hr : Roots w A) (hnf : nf = F.length) (hm : m = l.length) (hm' : m' = l'.length) (hF : IntV w.heap.size w pf cf F) (hl : IntV w.heap.size w q d l) (hl' : IntV w.heap.size w q' d' l') :
    Calls Tryd.prog 7 #[.int .i64 k, .int .i64 r, .slice pf nf cf, .slice q m d, .slice q' m' d'] w (Tells (.bool true) w) := by
  by_cases h : (k < 1 ∨ 4 < k) ∨ r < 0 ∨ 3 < r
  · exact sums_bad k r pf q q' nf cf m d m' d' w A hr h
  · obtain ⟨K, rfl⟩ : ∃ K : Nat, k = (K : Int) := ⟨k.toNat, by omega⟩
    obtain ⟨R, rfl⟩ : ∃ R : Nat, r = (R : Int) := ⟨r.toNat, by omega⟩
    have hle := hl.le
    have hcap := hl.cap
    have hle' := hl'.le
    have hcap' := hl'.cap
    unfold maxLen at hcap hcap'
    by_cases h2 : m ≠ m' ∨ 200 < m
    · exact sums_other K R pf q q' nf cf m d m' d' w A hr (by omega) (by omega) (by omega) (by omega) (by omega) h2
    · obtain rfl : m = m' := by omega
      exact sums_ok K R pf q q' nf cf m d d' F l l' w A hr (by omega) (by omega) (by omega) hnf hm hm' hF hl hl' (by omega)
end Go.Proofs.YthafjbegkifekaaDoor
