/- Package forms by its contracts, ninth part: invert.
Package forms by its contracts, tenth part: Shift, Rename, Compose.
Package forms by its contracts, eleventh part: Same.
Package rule by its contracts, seventh part: firstWrong.
Package rule by its contracts, eighth part: Parse.
edenraw.Lent, Kept and Copy, by contracts.
What the rows' lists of package-level variables give the walks: api's twelve errors and errors' own handle; and one world that meets the lists.
How a law's row is closed from its walk: where the law answers true and only new memory was written, each argument reads as it did.
Package word by its contracts, third part: Period, Least.
What the statements of layer 3 share: lists that are known, awake.
What the statements of layer 4 share: rules that are held against each other, lent rules, awake.
Package rule by its contracts, tenth part: Text of a rule that stands. -/
import Derived.Test.YtienaogmljlmlaaDoorB4
import Derived.Test.YtienaogmljlmlaaDoorB3
import Derived.Deep.RegionWith
import Derived.Test.YtienaogmljlmlaaDoorB2
import Derived.Laws.CopyOwn
import Derived.Laws.AppendOwnNone
import Derived.Test.YtienaogmljlmlaaDoorCards
import Derived.Test.YtienaogmljlmlaaDoorTie
import Derived.Test.YtienaogmljlmlaaDoorB1
import Derived.ProofKit
import Derived.OpenShut
import Derived.Deep.DeepHandedRow
import Derived.Deep.DeepWitnessRowRef
import Derived.LaidHandle
import Derived.LaidLaws
import Derived.Stop.LaidErr
import Derived.Carry
import Derived.SliceStrings
import Derived.ChangeSlices
import Derived.Lib.AppendIntMem
import Derived.Lib.ItoaLen
import Derived.Deep.RegionHeld3
import Derived.Laws.Concat
section
namespace Go.Proofs.YtienaogmljlmlaaDoor
open Go.RowKit Go.Extern.Stop Go.Stop Go.Extern WordM RuleM NatM
attribute [local go_sem ↓] Go.wp_at_zero Go.wp_at_succ

theorem index_any (p : Option Addr) (n c : Nat) (P : List Int) (x : Int) (w : World) (hn : n = P.length) (h : IntV w.heap.size w p c P) :
    Calls Tryd.prog 54 #[.slice p n c, .int .i64 x] w (Tells (.int .i64 (Lib.idxOf P x)) w) := by
  subst hn
  have hle := h.le
  have hcap := h.cap
  unfold maxLen at hcap
  rcases Nat.eq_zero_or_pos P.length with h0 | h0
  · rw [List.eq_nil_of_length_eq_zero h0]
    exact (Tryd.slices_Index_int_empty p c x w).mono fun e w' ⟨h1, h2⟩ => ⟨h1, by rw [h2]; exact Below.refl _ _⟩
  · obtain ⟨b, off, rfl, hb, hc⟩ := h.cell (by rintro rfl; simp at h0)
    refine (Tryd.slices_Index_int b off P.length c P x w (Nat.le_refl _) (by omega) (fun j hj => by
      have := hc j _ (ent_get hj)
      rw [this]; rfl)).mono fun e w' ⟨h1, h2⟩ => ⟨by rw [h1, List.take_length], by rw [h2]; exact Below.refl _ _⟩
theorem idx_hit {P : List Int} {x : Int} (h : x ∈ P) : Lib.idxOf P x = (fstI P x : Int) := by
  have := Lib.idxOf_hit P P.length (fstI P x) x (fst_lt h) (Nat.le_refl _) (fst_get h) (fun j hj => fst_no hj)
  rwa [List.take_length] at this
theorem idx_miss {P : List Int} {x : Int} (h : x ∉ P) : Lib.idxOf P x = -1 := by
  have := Lib.idxOf_miss P P.length x (fun j hj e => h (by
    have h1 := ent_get (t := P) hj
    have e' : ent P j = x := e
    rw [e'] at h1
    exact List.mem_of_getElem? h1))
  rwa [List.take_length] at this

def InvPost (w : World) (k : Nat) (q : List Int) (e : Ending) (w' : World) : Prop := ∃ p c, e = .returned (.tuple #[.slice p k c, .bool true]) ∧ IntO w.heap.size w' p c q ∧ Below w.heap.size w w'
def InvRel (w : World) (g k : Nat) (P : List Int) (v16 : Value) (wr : World) : Prop :=
  ∃ j : Nat, j ≤ k ∧ v16 = .int .i64 (j : Int) ∧ IntO w.heap.size wr (some ⟨g, 0, none⟩) k (tabN j (fun x => (fstI P x : Int)) ++ List.replicate (k - j) 0) ∧ Below w.heap.size w wr ∧ Hid (∀ y : Nat, y < j → (y : Int) ∈ P)

theorem put_tab {S j : Nat} {G : Nat → Int} (hj : j < S) (v : Int) : (tabN j G ++ List.replicate (S - j) (0 : Int)).set j v = tabN j G ++ v :: List.replicate (S - (j + 1)) 0 := by
  rw [show S - j = (S - (j + 1)) + 1 by omega, List.replicate_succ, List.set_append_right _ _ (by rw [tabN_length]; omega), tabN_length, Nat.sub_self]; rfl
theorem tab_len {S j : Nat} {G : Nat → Int} (hj : j ≤ S) : (tabN j G ++ List.replicate (S - j) (0 : Int)).length = S := by rw [List.length_append, tabN_length, List.length_replicate]; omega
theorem tab_next (S j : Nat) (G : Nat → Int) : tabN j G ++ G j :: List.replicate (S - (j + 1)) 0 = tabN (j + 1) G ++ List.replicate (S - (j + 1)) 0 := by rw [tabN_succ, List.append_assoc]; rfl

set_option maxRecDepth 100000 in
set_option maxHeartbeats 4000000 in
theorem invert_len (k : Nat) (p : Option Addr) (n c : Nat) (P : List Int) (w : World) (hn : n = P.length) (hne : P.length ≠ k) :
    Calls Tryd.prog 31 #[.int .i64 (k : Int), .slice p n c] w (Tells (.tuple #[.slice none 0 0, .bool false]) w) := by
  have hnk : ¬ (n : Int) = (k : Int) := by omega
  clear hn hne
  go_enter Tryd.func31, Tryd.ntmps31
  go_wp2_with fail
  go_ret2
  exact ⟨rfl, Below.refl _ _⟩
set_option maxRecDepth 100000 in
set_option maxHeartbeats 4000000 in
theorem invert_any (k : Nat) (p : Option Addr) (n c : Nat) (P : List Int) (w : World) (hn : n = P.length) (h4 : k ≤ 4) (hl : P.length = k) (h : IntV w.heap.size w p c P) :
    Calls Tryd.prog 31 #[.int .i64 (k : Int), .slice p n c] w (fun e w' => (permOf k P ∧ InvPost w k (invL k P) e w') ∨ (¬ permOf k P ∧ Tells (.tuple #[.slice none 0 0, .bool false]) w e w')) := by
  obtain rfl : n = k := by omega
  have hmk := makeI n (by omega) w
  have H := Lib.hid (And.intro hn (And.intro hl h))
  clear hn hl h
  go_enter Tryd.func31, Tryd.ntmps31
  go_wp2_with fail
  have ho0 := IntO.made w n (by omega)
  have hbm : Below w.heap.size w (w.alloc (.cells (madeCells #[.int .i64 0] n) 3)) := (Below.refl _ _).alloc (Nat.le_refl _) _
  have HO := Lib.hid (And.intro ho0 hbm)
  clear hmk ho0 hbm
  go_loopw [16] (fun v16 wr => InvRel w w.heap.size n P v16 wr) (fun v _ => n - (intOf v).toNat)
  case atStart => exact ⟨0, Nat.zero_le _, rfl, by simpa [tabN] using HO.out.1, HO.out.2, fun y hy => absurd hy (by omega)⟩
  case round =>
    obtain ⟨j, hj, rfl, ho, hb, hall⟩ := hrel
    by_cases hlt : j < n
    · have hidx := fun wx hx => index_any p n c P (j : Int) wx H.out.1 hx
      have hv := H.out.2.2.next hb
      rcases Classical.em ((j : Int) ∈ P) with hmem | hmem
      · rw [idx_hit hmem] at hidx
        have hset := put_tab (S := n) (G := fun x => (fstI P x : Int)) hlt (fstI P j : Int)
        have hnx := tab_next n j (fun x => (fstI P x : Int))
        have hlen := tab_len (G := fun x => (fstI P x : Int)) hj
        have hlen2 := tab_len (S := n) (j := j + 1) (G := fun x => (fstI P x : Int)) hlt
        obtain ⟨Y, hY⟩ : ∃ Y, fstI P j = Y := ⟨_, rfl⟩
        simp only [hY] at hidx
        obtain ⟨xs, hxs⟩ : ∃ xs, tabN j (fun x => (fstI P x : Int)) ++ List.replicate (n - j) (0 : Int) = xs := ⟨_, rfl⟩
        obtain ⟨ys, hys⟩ : ∃ ys, tabN (j + 1) (fun x => (fstI P x : Int)) ++ List.replicate (n - (j + 1)) (0 : Int) = ys := ⟨_, rfl⟩
        rw [hys] at hnx hlen2
        rw [hnx, hxs, hY] at hset
        rw [hxs] at ho hlen
        have hall2 : ∀ y : Nat, y < j + 1 → (y : Int) ∈ P := fun y hy => by
          rcases Nat.lt_or_ge y j with h1 | h1
          · exact hall.out y h1
          · obtain rfl : y = j := by omega
            exact hmem
        have HI := Lib.hid (And.intro hidx (And.intro hv (And.intro hset (And.intro hlen (And.intro hlen2 (And.intro hys hall2))))))
        have HB := Lib.hid (And.intro ho hb)
        have hY0 : ¬ (Y : Int) < 0 := by omega
        clear hidx hv hset hnx hlen hlen2 hY hxs hys hmem hall hall2 ho hb
        go_wp2_with fail
        refine (HI.out.1 wr HI.out.2.1).mono ?_
        rintro e wx ⟨rfl, hbx⟩
        have hown : wx.ownsRow w.heap.size 3 1 (.slice (some ⟨w.heap.size, 0, none⟩) n n) n (cI xs) := by
          have ho2 := HB.out.1.next hbx
          unfold IntO at ho2
          rwa [HI.out.2.2.2.1] at ho2
        have hfy : wx.frozen? ⟨w.heap.size, j, none⟩ = false := hown.frozenAt j
        obtain ⟨y0, hy0⟩ := getI (l := xs) (k := j) (by rw [HI.out.2.2.2.1]; exact hlt)
        have hcy : wx.cell? ⟨w.heap.size, j, none⟩ = some (.int .i64 y0) := (hown.cellAt j (by omega)).trans (cI_get hy0)
        obtain ⟨s1, _⟩ := hown.stored j (.int .i64 (Y : Int))
        rw [← cI_set, HI.out.2.2.1] at s1
        have hb2 := HB.out.2.trans (hbx.mono HB.out.2.size)
        have hb3 : Below w.heap.size w (wx.setCell ⟨w.heap.size, j, none⟩ (.int .i64 (Y : Int))) := hb2.setCell (p := ⟨w.heap.size, j, none⟩) (Nat.le_refl _) _
        have hc2 : (wx.setCell ⟨w.heap.size, j, none⟩ (.int .i64 (Y : Int))).cell? ⟨w.heap.size, j, none⟩ = some (.int .i64 (Y : Int)) := by
          have := s1.cellAt j (by omega)
          rw [this]
          have hset := HI.out.2.2.1
          rw [← hset]
          exact cI_get (List.getElem?_set_self (by rw [HI.out.2.2.2.1]; exact hlt))
        have HS := Lib.hid (And.intro s1 hb3)
        clear s1 hb3 hown hy0 hb2 hbx
        go_wp2_with fail
        go_roundw
        case rel => exact ⟨j + 1, by omega, by go_num, by rw [HI.out.2.2.2.2.2.1]; unfold IntO; rw [HI.out.2.2.2.2.1]; exact HS.out.1, HS.out.2, HI.out.2.2.2.2.2.2⟩
        case measure => simp [intOf]; omega
      · rw [idx_miss hmem] at hidx
        have hnp : ¬ permOf n P := fun hp => hmem (hp.2 j hlt)
        have hlen := tab_len (G := fun x => (fstI P x : Int)) hj
        obtain ⟨xs, hxs⟩ : ∃ xs, tabN j (fun x => (fstI P x : Int)) ++ List.replicate (n - j) (0 : Int) = xs := ⟨_, rfl⟩
        rw [hxs] at ho hlen
        have HI := Lib.hid (And.intro hidx (And.intro hv (And.intro hlen (And.intro ho (And.intro hb hnp)))))
        clear hidx hv hlen hxs hmem hall ho hb hnp
        go_wp2_with fail
        refine (HI.out.1 wr HI.out.2.1).mono ?_
        rintro e wx ⟨rfl, hbx⟩
        have hown : wx.ownsRow w.heap.size 3 1 (.slice (some ⟨w.heap.size, 0, none⟩) n n) n (cI xs) := by
          have ho2 := HI.out.2.2.2.1.next hbx
          unfold IntO at ho2
          rwa [HI.out.2.2.1] at ho2
        have hfy : wx.frozen? ⟨w.heap.size, j, none⟩ = false := hown.frozenAt j
        obtain ⟨y0, hy0⟩ := getI (l := xs) (k := j) (by rw [HI.out.2.2.1]; exact hlt)
        have hcy : wx.cell? ⟨w.heap.size, j, none⟩ = some (.int .i64 y0) := (hown.cellAt j (by omega)).trans (cI_get hy0)
        obtain ⟨s1, _⟩ := hown.stored j (.int .i64 (-1))
        have hb2 := HI.out.2.2.2.2.1.trans (hbx.mono HI.out.2.2.2.2.1.size)
        have hb3 : Below w.heap.size w (wx.setCell ⟨w.heap.size, j, none⟩ (.int .i64 (-1))) := hb2.setCell (p := ⟨w.heap.size, j, none⟩) (Nat.le_refl _) _
        have hc2 : (wx.setCell ⟨w.heap.size, j, none⟩ (.int .i64 (-1))).cell? ⟨w.heap.size, j, none⟩ = some (.int .i64 (-1)) := by
          rw [← cI_set] at s1
          have := s1.cellAt j (by omega)
          rw [this]
          exact cI_get (List.getElem?_set_self (by rw [HI.out.2.2.1]; exact hlt))
        have HS := Lib.hid hb3
        clear s1 hb3 hown hy0 hb2 hbx
        go_wp2_with fail
        go_ret2
        exact Or.inr ⟨HI.out.2.2.2.2.2, rfl, HS.out⟩
    · obtain rfl : j = n := by omega
      rw [Nat.sub_self, List.replicate_zero, List.append_nil] at ho
      have hp : permOf j P := ⟨H.out.2.1, hall.out⟩
      have HF := Lib.hid (And.intro ho (And.intro hb hp))
      clear ho hb hp hall
      go_wp2_with fail
      go_ret2
      exact Or.inl ⟨HF.out.2.2, _, _, rfl, HF.out.1, HF.out.2.1⟩
end Go.Proofs.YtienaogmljlmlaaDoor
end
section
namespace Go.Proofs.YtienaogmljlmlaaDoor
open Go.RowKit Go.Extern.Stop Go.Stop Go.Extern WordM RuleM NatM

theorem rule_one_rule (w : World) (a b c x y z : Value) (T : TypeId) (v : Value) (w0 : World) (hw0 : w0 = ((w.alloc (.cells #[a, b, c] 24)).alloc (.cells #[v] T)).alloc (.cells #[x, y, z] 24)) :
    Below w.heap.size w w0 ∧ Rul3 w0 w.heap.size a b c ∧ One w0 (w.heap.size + 1) T v ∧ Rul3 w0 (w.heap.size + 1 + 1) x y z := by
  obtain ⟨w1, hw1⟩ : ∃ w1, w1 = (w.alloc (.cells #[a, b, c] 24)).alloc (.cells #[v] T) := ⟨_, rfl⟩
  have hs0 : (w.alloc (.cells #[a, b, c] 24)).heap.size = w.heap.size + 1 := by simp
  have h1 : Below w.heap.size w (w.alloc (.cells #[a, b, c] 24)) := (Below.refl _ _).alloc (Nat.le_refl _) _
  have h2 : Below (w.alloc (.cells #[a, b, c] 24)).heap.size (w.alloc (.cells #[a, b, c] 24)) w1 := by rw [hw1]; exact (Below.refl _ _).alloc (Nat.le_refl _) _
  have h3 : One w1 (w.alloc (.cells #[a, b, c] 24)).heap.size T v := by rw [hw1]; exact One.new _ _ _
  rw [hs0] at h3
  have hs : w1.heap.size = w.heap.size + 1 + 1 := by rw [hw1]; simp
  rw [← hw1] at hw0
  have h4 : Below w1.heap.size w1 w0 := by rw [hw0]; exact (Below.refl _ _).alloc (Nat.le_refl _) _
  have h5 : Rul3 w0 w1.heap.size x y z := by rw [hw0]; exact Rul3.new _ _ _ _
  rw [hs] at h5
  have h12 := h1.trans (h2.mono h1.size)
  exact ⟨h12.trans (h4.mono h12.size), ((Rul3.new w a b c).next h2).next h4, h3.next h4, h5⟩
theorem one_one_rule (w : World) (a b : Value) (T U : TypeId) (x y z : Value) (w0 : World) (hw0 : w0 = ((w.alloc (.cells #[a] T)).alloc (.cells #[b] U)).alloc (.cells #[x, y, z] 24)) :
    Below w.heap.size w w0 ∧ One w0 w.heap.size T a ∧ One w0 (w.heap.size + 1) U b ∧ Rul3 w0 (w.heap.size + 1 + 1) x y z := by
  obtain ⟨w1, hw1⟩ : ∃ w1, w1 = (w.alloc (.cells #[a] T)).alloc (.cells #[b] U) := ⟨_, rfl⟩
  have hs0 : (w.alloc (.cells #[a] T)).heap.size = w.heap.size + 1 := by simp
  have h1 : Below w.heap.size w (w.alloc (.cells #[a] T)) := (Below.refl _ _).alloc (Nat.le_refl _) _
  have h2 : Below (w.alloc (.cells #[a] T)).heap.size (w.alloc (.cells #[a] T)) w1 := by rw [hw1]; exact (Below.refl _ _).alloc (Nat.le_refl _) _
  have h3 : One w1 (w.alloc (.cells #[a] T)).heap.size U b := by rw [hw1]; exact One.new _ _ _
  rw [hs0] at h3
  have hs : w1.heap.size = w.heap.size + 1 + 1 := by rw [hw1]; simp
  rw [← hw1] at hw0
  have h4 : Below w1.heap.size w1 w0 := by rw [hw0]; exact (Below.refl _ _).alloc (Nat.le_refl _) _
  have h5 : Rul3 w0 w1.heap.size x y z := by rw [hw0]; exact Rul3.new _ _ _ _
  rw [hs] at h5
  have h12 := h1.trans (h2.mono h1.size)
  exact ⟨h12.trans (h4.mono h12.size), ((One.new w T a).next h2).next h4, h3.next h4, h5⟩

set_option maxRecDepth 100000 in
set_option maxHeartbeats 4000000 in
theorem fshift_bad (k d : Int) (w : World) (A : Nat → Addr) (hr : Roots w A) (hbad : k < 1 ∨ 4 < k ∨ d < -3 ∨ 3 < d) :
    Calls Tryd.prog 16 #[.int .i64 k, .int .i64 d] w (FErr2 w A [(formsOp, 0)] 3 noRule) := by
  have H := Lib.hid hr
  clear hr
  rcases (show k < 1 ∨ (¬ k < 1 ∧ 4 < k) ∨ (¬ k < 1 ∧ ¬ 4 < k ∧ d < -3) ∨ (¬ k < 1 ∧ ¬ 4 < k ∧ ¬ d < -3 ∧ 3 < d) by omega) with g1 | ⟨g1, g2⟩ | ⟨g1, g2, g3⟩ | ⟨g1, g2, g3, g4⟩
  · clear hbad
    have ST := Lib.hid (one_one_rule w (.int .i64 k) (.int .i64 d) 3 3 (.int .i64 0) (.int .i64 0) (.slice none 0 0))
    go_enter Tryd.func16, Tryd.ntmps16
    go_upto_region 1 with fail
    obtain ⟨w0, hw0⟩ : ∃ w0, w0 = ((w.alloc (.cells #[.int .i64 k] 3)).alloc (.cells #[.int .i64 d] 3)).alloc (.cells #[.int .i64 0, .int .i64 0, .slice none 0 0] 24) := ⟨_, rfl⟩
    rw [← hw0]
    obtain ⟨hb0, hK0, hD0, hF0⟩ := ST.out w0 hw0
    have hck := hK0.cell
    have hcd := hD0.cell
    have HE := Lib.hid (And.intro hb0 (And.intro hK0 (And.intro hD0 hF0)))
    clear hw0 hb0 hK0 hD0 hF0
    go_wp2_with fail
    refine (new_at formsOp 0 3 w0 A (H.out.below HE.out.1) (by omega)).mono ?_
    rintro e w2 ⟨b, rfl, hl2, hb2⟩
    have hE1 := HE.out.2.2.2.next hb2
    have H2 := Lib.hid (And.intro (HE.out.1.trans (hb2.mono HE.out.1.size)) (And.intro (Chn.one hl2) (put3_same hE1)))
    clear hck hcd
    obtain ⟨⟨hf0, hf1, hf2⟩, hc0, hc1, hc2⟩ := hE1.facts
    clear hb2 hl2 hE1
    go_wp2_with fail
    refine bodyPost_ret (v := .tuple #[noRule, .iface 79 (.pointer (some ⟨b, 0, none⟩))]) (by simp [results, Tryd.results16, go_sem, hc0, hc1, hc2, noRule]) rfl ⟨b, rfl, ?_, ?_⟩
    · show Chn (put3 w2 (w.heap.size + 1 + 1) _ _ _) A b _ 3
      rw [H2.out.2.2]; exact H2.out.2.1
    · show Below _ _ (put3 w2 (w.heap.size + 1 + 1) _ _ _)
      rw [H2.out.2.2]; exact H2.out.1
  · clear hbad
    have ST := Lib.hid (one_one_rule w (.int .i64 k) (.int .i64 d) 3 3 (.int .i64 0) (.int .i64 0) (.slice none 0 0))
    go_enter Tryd.func16, Tryd.ntmps16
    go_upto_region 1 with fail
    obtain ⟨w0, hw0⟩ : ∃ w0, w0 = ((w.alloc (.cells #[.int .i64 k] 3)).alloc (.cells #[.int .i64 d] 3)).alloc (.cells #[.int .i64 0, .int .i64 0, .slice none 0 0] 24) := ⟨_, rfl⟩
    rw [← hw0]
    obtain ⟨hb0, hK0, hD0, hF0⟩ := ST.out w0 hw0
    have hck := hK0.cell
    have hcd := hD0.cell
    have HE := Lib.hid (And.intro hb0 (And.intro hK0 (And.intro hD0 hF0)))
    clear hw0 hb0 hK0 hD0 hF0
    go_wp2_with fail
    refine (new_at formsOp 0 3 w0 A (H.out.below HE.out.1) (by omega)).mono ?_
    rintro e w2 ⟨b, rfl, hl2, hb2⟩
    have hE1 := HE.out.2.2.2.next hb2
    have H2 := Lib.hid (And.intro (HE.out.1.trans (hb2.mono HE.out.1.size)) (And.intro (Chn.one hl2) (put3_same hE1)))
    clear hck hcd
    obtain ⟨⟨hf0, hf1, hf2⟩, hc0, hc1, hc2⟩ := hE1.facts
    clear hb2 hl2 hE1
    go_wp2_with fail
    refine bodyPost_ret (v := .tuple #[noRule, .iface 79 (.pointer (some ⟨b, 0, none⟩))]) (by simp [results, Tryd.results16, go_sem, hc0, hc1, hc2, noRule]) rfl ⟨b, rfl, ?_, ?_⟩
    · show Chn (put3 w2 (w.heap.size + 1 + 1) _ _ _) A b _ 3
      rw [H2.out.2.2]; exact H2.out.2.1
    · show Below _ _ (put3 w2 (w.heap.size + 1 + 1) _ _ _)
      rw [H2.out.2.2]; exact H2.out.1
  · clear hbad
    have ST := Lib.hid (one_one_rule w (.int .i64 k) (.int .i64 d) 3 3 (.int .i64 0) (.int .i64 0) (.slice none 0 0))
    go_enter Tryd.func16, Tryd.ntmps16
    go_upto_region 1 with fail
    obtain ⟨w0, hw0⟩ : ∃ w0, w0 = ((w.alloc (.cells #[.int .i64 k] 3)).alloc (.cells #[.int .i64 d] 3)).alloc (.cells #[.int .i64 0, .int .i64 0, .slice none 0 0] 24) := ⟨_, rfl⟩
    rw [← hw0]
    obtain ⟨hb0, hK0, hD0, hF0⟩ := ST.out w0 hw0
    have hck := hK0.cell
    have hcd := hD0.cell
    have HE := Lib.hid (And.intro hb0 (And.intro hK0 (And.intro hD0 hF0)))
    clear hw0 hb0 hK0 hD0 hF0
    go_wp2_with fail
    refine (new_at formsOp 0 3 w0 A (H.out.below HE.out.1) (by omega)).mono ?_
    rintro e w2 ⟨b, rfl, hl2, hb2⟩
    have hE1 := HE.out.2.2.2.next hb2
    have H2 := Lib.hid (And.intro (HE.out.1.trans (hb2.mono HE.out.1.size)) (And.intro (Chn.one hl2) (put3_same hE1)))
    clear hck hcd
    obtain ⟨⟨hf0, hf1, hf2⟩, hc0, hc1, hc2⟩ := hE1.facts
    clear hb2 hl2 hE1
    go_wp2_with fail
    refine bodyPost_ret (v := .tuple #[noRule, .iface 79 (.pointer (some ⟨b, 0, none⟩))]) (by simp [results, Tryd.results16, go_sem, hc0, hc1, hc2, noRule]) rfl ⟨b, rfl, ?_, ?_⟩
    · show Chn (put3 w2 (w.heap.size + 1 + 1) _ _ _) A b _ 3
      rw [H2.out.2.2]; exact H2.out.2.1
    · show Below _ _ (put3 w2 (w.heap.size + 1 + 1) _ _ _)
      rw [H2.out.2.2]; exact H2.out.1
  · clear hbad
    have ST := Lib.hid (one_one_rule w (.int .i64 k) (.int .i64 d) 3 3 (.int .i64 0) (.int .i64 0) (.slice none 0 0))
    go_enter Tryd.func16, Tryd.ntmps16
    go_upto_region 1 with fail
    obtain ⟨w0, hw0⟩ : ∃ w0, w0 = ((w.alloc (.cells #[.int .i64 k] 3)).alloc (.cells #[.int .i64 d] 3)).alloc (.cells #[.int .i64 0, .int .i64 0, .slice none 0 0] 24) := ⟨_, rfl⟩
    rw [← hw0]
    obtain ⟨hb0, hK0, hD0, hF0⟩ := ST.out w0 hw0
    have hck := hK0.cell
    have hcd := hD0.cell
    have HE := Lib.hid (And.intro hb0 (And.intro hK0 (And.intro hD0 hF0)))
    clear hw0 hb0 hK0 hD0 hF0
    go_wp2_with fail
    refine (new_at formsOp 0 3 w0 A (H.out.below HE.out.1) (by omega)).mono ?_
    rintro e w2 ⟨b, rfl, hl2, hb2⟩
    have hE1 := HE.out.2.2.2.next hb2
    have H2 := Lib.hid (And.intro (HE.out.1.trans (hb2.mono HE.out.1.size)) (And.intro (Chn.one hl2) (put3_same hE1)))
    clear hck hcd
    obtain ⟨⟨hf0, hf1, hf2⟩, hc0, hc1, hc2⟩ := hE1.facts
    clear hb2 hl2 hE1
    go_wp2_with fail
    refine bodyPost_ret (v := .tuple #[noRule, .iface 79 (.pointer (some ⟨b, 0, none⟩))]) (by simp [results, Tryd.results16, go_sem, hc0, hc1, hc2, noRule]) rfl ⟨b, rfl, ?_, ?_⟩
    · show Chn (put3 w2 (w.heap.size + 1 + 1) _ _ _) A b _ 3
      rw [H2.out.2.2]; exact H2.out.2.1
    · show Below _ _ (put3 w2 (w.heap.size + 1 + 1) _ _ _)
      rw [H2.out.2.2]; exact H2.out.1

set_option maxRecDepth 100000 in
set_option maxHeartbeats 4000000 in
theorem fshift_ok (k : Nat) (d : Int) (w : World) (h1 : 1 ≤ k) (h4 : k ≤ 4) (hd1 : -3 ≤ d) (hd2 : d ≤ 3) :
    Calls Tryd.prog 16 #[.int .i64 (k : Int), .int .i64 d] w (RuleOk w k d.natAbs (shiT k d)) := by
  obtain ⟨R, hR⟩ : ∃ R, d.natAbs = R := ⟨_, rfl⟩
  have g1 : ¬ (k : Int) < 1 := by omega
  have g2 : ¬ (4 : Int) < (k : Int) := by omega
  have g3 : ¬ d < -3 := by omega
  have g4 : ¬ (3 : Int) < d := by omega
  have hpw := fun W => fpower_any k (2 * R) W h4 (by omega)
  obtain ⟨f, hf⟩ : ∃ f, k ^ (2 * R) = f := ⟨_, rfl⟩
  have hf16 := small_p7 (k := k) (j := 2 * R) h4 (by omega)
  have hf1 : 1 ≤ k ^ (2 * R) := Nat.pow_pos h1
  rw [hf] at hf16 hf1
  obtain ⟨m, hm⟩ : ∃ m, 2 * R = m := ⟨_, rfl⟩
  simp only [hf] at hpw
  rw [hm] at hpw
  have wneg : IntKind.i64.wrap (-d) = -d := by rw [IntWalk.i64_in _ (by omega)]
  have wm : IntKind.i64.wrap (2 * (R : Int)) = (m : Int) := by rw [IntWalk.i64_in _ (by omega)]; omega
  have hS16 := pow_le (k := k) (r := R) h4 (by omega)
  have htab : shiT k d = tabN (k ^ (2 * R + 1)) (fun i => if d < 0 then ((i / f : Nat) : Int) else ((i % k : Nat) : Int)) := by
    unfold shiT
    rw [hR, hf]
  have htb := fun (w1 : World) b1 b2 b3 hx1 hx2 hx3 => tabulate_any k R 38 #[.pointer (some ⟨b1, 0, none⟩), .pointer (some ⟨b2, 0, none⟩), .pointer (some ⟨b3, 0, none⟩)] w1 _ h4 (by omega) enter_shift (give_shift k f d b1 b2 b3 (k ^ (2 * R + 1)) w1 h1 hf1 hS16 hx1 hx2 hx3)
  rw [← htab] at htb
  obtain ⟨L, hL⟩ : ∃ L, (shiT k d).length = L := ⟨_, rfl⟩
  have hmax : (if d ≤ -d then -d else d) = (R : Int) := by split <;> omega
  have hmax2 : max d (-d) = (R : Int) := by omega
  rw [hR]
  have H := Lib.hid (And.intro hpw (And.intro htb (And.intro hL hR)))
  clear hpw htb hL htab hS16 hf hf16 hf1 hm hR h1 h4 hd1 hd2
  have ST := Lib.hid (one_one_rule w (.int .i64 (k : Int)) (.int .i64 d) 3 3 (.int .i64 0) (.int .i64 0) (.slice none 0 0))
  go_enter Tryd.func16, Tryd.ntmps16
  go_upto_region 1 with fail
  obtain ⟨w0, hw0⟩ : ∃ w0, w0 = ((w.alloc (.cells #[.int .i64 (k : Int)] 3)).alloc (.cells #[.int .i64 d] 3)).alloc (.cells #[.int .i64 0, .int .i64 0, .slice none 0 0] 24) := ⟨_, rfl⟩
  rw [← hw0]
  obtain ⟨hb0, hK0, hD0, hF0⟩ := ST.out w0 hw0
  have hck := hK0.cell
  have hcd := hD0.cell
  have HE := Lib.hid (And.intro hb0 (And.intro hK0 (And.intro hD0 hF0)))
  clear hw0 hb0 hK0 hD0 hF0
  go_wp2_with fail
  refine (H.out.1 w0).mono ?_
  rintro e w1 ⟨rfl, rfl⟩
  go_upto_region 5 with fail
  obtain ⟨w1, hw1⟩ : ∃ x, x = w0.alloc (.cells #[.int .i64 (f : Int)] 3) := ⟨_, rfl⟩
  have hb1 : Below w0.heap.size w0 w1 := by rw [hw1]; exact (Below.refl _ _).alloc (Nat.le_refl _) _
  have hO1 : One w1 w0.heap.size 3 (.int .i64 (f : Int)) := by rw [hw1]; exact One.new _ _ _
  rw [← hw1]
  have htb := H.out.2.1 w1 (w.heap.size + 1) w0.heap.size w.heap.size (HE.out.2.2.1.next hb1) hO1 (HE.out.2.1.next hb1)
  have HT : Hid (Calls Tryd.prog 27 #[.int .i64 (k : Int), .int .i64 (R : Int), .func (.func 38) #[] #[.pointer (some ⟨w.heap.size + 1, 0, none⟩), .pointer (some ⟨w0.heap.size, 0, none⟩), .pointer (some ⟨w.heap.size, 0, none⟩)]] w1 (TabPost w1 k R (shiT k d))) := htb
  clear hck hcd
  have hck := (HE.out.2.1.next hb1).cell
  have H1 := Lib.hid (And.intro (HE.out.1.trans (hb1.mono HE.out.1.size)) (HE.out.2.2.2.next hb1))
  clear hw1 hb1 hO1 htb
  go_wp2_with fail
  refine HT.out.mono ?_
  rintro e w2 ⟨p2, c2, rfl, ho2, hb2⟩
  rw [H.out.2.2.1]
  clear hck
  obtain ⟨⟨hf0, hf1, hf2⟩, hc0, hc1, hc2⟩ := (H1.out.2.next hb2).facts
  have H2 := Lib.hid (And.intro (ho2.base H1.out.2.lt) (H1.out.1.trans (hb2.mono H1.out.1.size)))
  clear ho2 hb2
  go_wp2_with fail
  refine bodyPost_ret (v := .tuple #[.agg #[.int .i64 (k : Int), .int .i64 (R : Int), .slice p2 L c2], .nilIface]) (by simp [results, Tryd.results16, go_sem, hc0, hc1, hc2]) rfl ⟨p2, c2, by rw [H.out.2.2.1], ?_, put3_below H2.out.2 (by omega) _ _ _⟩
  exact (H2.out.1.put3 (h := w.heap.size + 1 + 1) (Nat.lt_succ_self _) _ _ _).base (by omega)

set_option maxRecDepth 100000 in
set_option maxHeartbeats 4000000 in
theorem frename_bad (k r : Int) (p q : Option Addr) (n c m d : Nat) (t : List Int) (w : World) (A : Nat → Addr) (hr : Roots w A) (hn : n = t.length) (h : IntV w.heap.size w p c t) (i : Nat) (hc : chkR k r t = some i) :
    Calls Tryd.prog 13 #[.agg #[.int .i64 k, .int .i64 r, .slice p n c], .slice q m d] w (FErr2 w A [(formsOp, 0), (ruleOp, (i : Int))] 1 noRule) := by
  have H := Lib.hid (And.intro hn (And.intro h (And.intro hr hc)))
  clear hn h hr hc
  have ST := Lib.hid (rule_one_rule w (.int .i64 k) (.int .i64 r) (.slice p n c) (.int .i64 0) (.int .i64 0) (.slice none 0 0) 22 (.slice q m d))
  go_enter Tryd.func13, Tryd.ntmps13
  go_upto_region 1 with fail
  obtain ⟨w0, hw0⟩ : ∃ w0, w0 = ((w.alloc (.cells #[.int .i64 k, .int .i64 r, .slice p n c] 24)).alloc (.cells #[.slice q m d] 22)).alloc (.cells #[.int .i64 0, .int .i64 0, .slice none 0 0] 24) := ⟨_, rfl⟩
  rw [← hw0]
  obtain ⟨hb0, hE0, hO0, hF0⟩ := ST.out w0 hw0
  obtain ⟨_, hc0, hc1, hc2⟩ := hE0.facts
  have HE := Lib.hid (And.intro hb0 (And.intro hE0 (And.intro hO0 hF0)))
  clear hw0 hE0 hb0 hF0 hO0
  go_wp2_with fail
  refine (fcheck_bad k r 0 p n c t w0 A (H.out.2.2.1.below HE.out.1) H.out.1 (H.out.2.1.next HE.out.1) i H.out.2.2.2).mono ?_
  rintro e w2 ⟨b, rfl, hl2, hb2⟩
  have hE1 := HE.out.2.2.2.next hb2
  have H2 := Lib.hid (And.intro (HE.out.1.trans (hb2.mono HE.out.1.size)) (And.intro hl2 (put3_same hE1)))
  clear hc0 hc1 hc2
  obtain ⟨⟨hf0, hf1, hf2⟩, hc0, hc1, hc2⟩ := hE1.facts
  clear hb2 hl2 hE1
  go_wp2_with fail
  refine bodyPost_ret (v := .tuple #[noRule, .iface 79 (.pointer (some ⟨b, 0, none⟩))]) (by simp [results, Tryd.results13, go_sem, hc0, hc1, hc2, noRule]) rfl ⟨b, rfl, ?_, ?_⟩
  · show Chn (put3 w2 (w.heap.size + 1 + 1) _ _ _) A b _ 1
    rw [H2.out.2.2]; exact H2.out.2.1
  · show Below _ _ (put3 w2 (w.heap.size + 1 + 1) _ _ _)
    rw [H2.out.2.2]; exact H2.out.1

theorem invert_not (k : Nat) (p : Option Addr) (n c : Nat) (P : List Int) (w : World) (hn : n = P.length) (h4 : k ≤ 4) (h : IntV w.heap.size w p c P) (hne : ¬ permOf k P) :
    Calls Tryd.prog 31 #[.int .i64 (k : Int), .slice p n c] w (Tells (.tuple #[.slice none 0 0, .bool false]) w) := by
  rcases Nat.decEq P.length k with hl | hl
  · exact invert_len k p n c P w hn hl
  · exact (invert_any k p n c P w hn h4 hl h).mono fun e w' hh => by
      rcases hh with ⟨h1, _⟩ | ⟨_, h2⟩
      · exact absurd h1 hne
      · exact h2
theorem invert_ok (k : Nat) (p : Option Addr) (n c : Nat) (P : List Int) (w : World) (hn : n = P.length) (h4 : k ≤ 4) (h : IntV w.heap.size w p c P) (hp : permOf k P) :
    Calls Tryd.prog 31 #[.int .i64 (k : Int), .slice p n c] w (InvPost w k (invL k P)) :=
  (invert_any k p n c P w hn h4 hp.1 h).mono fun e w' hh => by
    rcases hh with ⟨_, h2⟩ | ⟨h1, _⟩
    · exact h2
    · exact absurd hp h1
set_option maxRecDepth 100000 in
set_option maxHeartbeats 4000000 in
theorem frename_arg (K R : Nat) (p q : Option Addr) (n c m d : Nat) (t P : List Int) (w : World) (A : Nat → Addr) (hr : Roots w A) (hn : n = t.length) (hm : m = P.length) (h : IntV w.heap.size w p c t) (hP : IntV w.heap.size w q d P) (ho : OkR K R t) (hne : ¬ permOf K P) :
    Calls Tryd.prog 13 #[.agg #[.int .i64 (K : Int), .int .i64 (R : Int), .slice p n c], .slice q m d] w (FErr2 w A [(formsOp, 0)] 3 noRule) := by
  have hiv := fun W hW => invert_not K q m d P W hm ho.k4 hW hne
  have H := Lib.hid (And.intro hn (And.intro h (And.intro ho (And.intro hr (And.intro hP hiv)))))
  clear hn h ho hr hP hiv hm hne
  have ST := Lib.hid (rule_one_rule w (.int .i64 (K : Int)) (.int .i64 (R : Int)) (.slice p n c) (.int .i64 0) (.int .i64 0) (.slice none 0 0) 22 (.slice q m d))
  go_enter Tryd.func13, Tryd.ntmps13
  go_upto_region 1 with fail
  obtain ⟨w0, hw0⟩ : ∃ w0, w0 = ((w.alloc (.cells #[.int .i64 (K : Int), .int .i64 (R : Int), .slice p n c] 24)).alloc (.cells #[.slice q m d] 22)).alloc (.cells #[.int .i64 0, .int .i64 0, .slice none 0 0] 24) := ⟨_, rfl⟩
  rw [← hw0]
  obtain ⟨hb0, hE0, hO0, hF0⟩ := ST.out w0 hw0
  obtain ⟨_, hc0, hc1, hc2⟩ := hE0.facts
  have HE := Lib.hid (And.intro hb0 (And.intro hE0 (And.intro hO0 hF0)))
  clear hw0 hE0 hb0 hF0 hO0
  go_wp2_with fail
  refine (fcheck_ok K R 0 p n c t w0 H.out.1 (H.out.2.1.next HE.out.1) H.out.2.2.1).mono ?_
  rintro e w1 ⟨rfl, hb1⟩
  have H1 := Lib.hid (And.intro (HE.out.1.trans (hb1.mono HE.out.1.size)) (And.intro (HE.out.2.1.next hb1) (And.intro (HE.out.2.2.1.next hb1) (HE.out.2.2.2.next hb1))))
  clear hc0 hc1 hc2 hb1
  obtain ⟨_, hc0, hc1, hc2⟩ := H1.out.2.1.facts
  have hcq := H1.out.2.2.1.cell
  go_wp2_with fail
  refine (H.out.2.2.2.2.2 w1 (H.out.2.2.2.2.1.next H1.out.1)).mono ?_
  rintro e w3 ⟨rfl, hb3⟩
  clear hc0 hc1 hc2 hcq
  go_upto_region 5 with fail
  obtain ⟨w4, hw4⟩ : ∃ x, x = w3.alloc (.cells #[.slice none 0 0] 22) := ⟨_, rfl⟩
  have hb4 : Below w3.heap.size w3 w4 := by rw [hw4]; exact (Below.refl _ _).alloc (Nat.le_refl _) _
  rw [← hw4]
  have h34 := hb3.trans (hb4.mono hb3.size)
  have H4 := Lib.hid (And.intro (H1.out.1.trans (h34.mono H1.out.1.size)) (H1.out.2.2.2.next h34))
  clear hw4 hb4 hb3 h34
  go_wp2_with fail
  refine (new_at formsOp 0 3 w4 A (H.out.2.2.2.1.below H4.out.1) (by omega)).mono ?_
  rintro e w2 ⟨b, rfl, hl2, hb2⟩
  have hE1 := H4.out.2.next hb2
  have H2 := Lib.hid (And.intro (H4.out.1.trans (hb2.mono H4.out.1.size)) (And.intro (Chn.one hl2) (put3_same hE1)))
  obtain ⟨⟨hf0, hf1, hf2⟩, hc0, hc1, hc2⟩ := hE1.facts
  clear hb2 hl2 hE1
  go_wp2_with fail
  refine bodyPost_ret (v := .tuple #[noRule, .iface 79 (.pointer (some ⟨b, 0, none⟩))]) (by simp [results, Tryd.results13, go_sem, hc0, hc1, hc2, noRule]) rfl ⟨b, rfl, ?_, ?_⟩
  · show Chn (put3 w2 (w.heap.size + 1 + 1) _ _ _) A b _ 3
    rw [H2.out.2.2]; exact H2.out.2.1
  · show Below _ _ (put3 w2 (w.heap.size + 1 + 1) _ _ _)
    rw [H2.out.2.2]; exact H2.out.1

set_option maxRecDepth 100000 in
set_option maxHeartbeats 4000000 in
theorem frename_ok (K R : Nat) (p q : Option Addr) (n c m d : Nat) (t P : List Int) (w : World) (hn : n = t.length) (hm : m = P.length) (h : IntV w.heap.size w p c t) (hP : IntV w.heap.size w q d P) (ho : OkR K R t) (hp : permOf K P) :
    Calls Tryd.prog 13 #[.agg #[.int .i64 (K : Int), .int .i64 (R : Int), .slice p n c], .slice q m d] w (RuleOk w K R (renT K R t P (invL K P))) := by
  have hiv := fun W hW => invert_ok K q m d P W hm ho.k4 hW hp
  have hpr := perm_inv hp
  obtain ⟨Q, hQ⟩ : ∃ Q, invL K P = Q := ⟨_, rfl⟩
  rw [hQ] at hpr ⊢
  simp only [hQ] at hiv
  obtain ⟨L, hL⟩ : ∃ L, (renT K R t P Q).length = L := ⟨_, rfl⟩
  have H := Lib.hid (And.intro hn (And.intro h (And.intro ho (And.intro hpr (And.intro hP (And.intro hiv (And.intro hm hL)))))))
  clear hn h ho hpr hP hiv hm hp hQ hL
  have ST := Lib.hid (rule_one_rule w (.int .i64 (K : Int)) (.int .i64 (R : Int)) (.slice p n c) (.int .i64 0) (.int .i64 0) (.slice none 0 0) 22 (.slice q m d))
  go_enter Tryd.func13, Tryd.ntmps13
  go_upto_region 1 with fail
  obtain ⟨w0, hw0⟩ : ∃ w0, w0 = ((w.alloc (.cells #[.int .i64 (K : Int), .int .i64 (R : Int), .slice p n c] 24)).alloc (.cells #[.slice q m d] 22)).alloc (.cells #[.int .i64 0, .int .i64 0, .slice none 0 0] 24) := ⟨_, rfl⟩
  rw [← hw0]
  obtain ⟨hb0, hE0, hO0, hF0⟩ := ST.out w0 hw0
  obtain ⟨_, hc0, hc1, hc2⟩ := hE0.facts
  have HE := Lib.hid (And.intro hb0 (And.intro hE0 (And.intro hO0 hF0)))
  clear hw0 hE0 hb0 hF0 hO0
  go_wp2_with fail
  refine (fcheck_ok K R 0 p n c t w0 H.out.1 (H.out.2.1.next HE.out.1) H.out.2.2.1).mono ?_
  rintro e w1 ⟨rfl, hb1⟩
  have H1 := Lib.hid (And.intro (HE.out.1.trans (hb1.mono HE.out.1.size)) (And.intro (HE.out.2.1.next hb1) (And.intro (HE.out.2.2.1.next hb1) (HE.out.2.2.2.next hb1))))
  clear hc0 hc1 hc2 hb1
  obtain ⟨_, hc0, hc1, hc2⟩ := H1.out.2.1.facts
  have hcq := H1.out.2.2.1.cell
  go_wp2_with fail
  refine (H.out.2.2.2.2.2.1 w1 (H.out.2.2.2.2.1.next H1.out.1)).mono ?_
  rintro e w3 ⟨p3, c3, rfl, ho3, hb3⟩
  clear hc0 hc1 hc2 hcq
  go_upto_region 5 with fail
  obtain ⟨w4, hw4⟩ : ∃ x, x = w3.alloc (.cells #[.slice p3 K c3] 22) := ⟨_, rfl⟩
  have hb4 : Below w3.heap.size w3 w4 := by rw [hw4]; exact (Below.refl _ _).alloc (Nat.le_refl _) _
  have hO4 : One w4 w3.heap.size 22 (.slice p3 K c3) := by rw [hw4]; exact One.new _ _ _
  rw [← hw4]
  have h34 := hb3.trans (hb4.mono hb3.size)
  have hbw := H1.out.1.trans (h34.mono H1.out.1.size)
  have hg := give_rename K R p p3 q n c K c3 m d t Q P w.heap.size w3.heap.size (w.heap.size + 1) w4 H.out.1 H.out.2.2.2.1.lq.symm H.out.2.2.2.2.2.2.1 H.out.2.2.1 H.out.2.2.2.1 (H.out.2.1.next hbw) (ho3.next hb4).toV (H.out.2.2.2.2.1.next hbw) (H1.out.2.1.next h34) hO4 (H1.out.2.2.1.next h34)
  have htb := tabulate_any K R 33 #[.pointer (some ⟨w.heap.size, 0, none⟩), .pointer (some ⟨w3.heap.size, 0, none⟩), .pointer (some ⟨w.heap.size + 1, 0, none⟩)] w4 _ H.out.2.2.1.k4 H.out.2.2.1.r3 enter_rename hg
  have htb2 : Calls Tryd.prog 27 #[.int .i64 (K : Int), .int .i64 (R : Int), .func (.func 33) #[] #[.pointer (some ⟨w.heap.size, 0, none⟩), .pointer (some ⟨w3.heap.size, 0, none⟩), .pointer (some ⟨w.heap.size + 1, 0, none⟩)]] w4 (TabPost w4 K R (renT K R t P Q)) := htb
  obtain ⟨_, hc0, hc1, hc2⟩ := (H1.out.2.1.next h34).facts
  have H4 := Lib.hid (And.intro hbw (And.intro (H1.out.2.2.2.next h34) htb2))
  clear hw4 hb4 hb3 h34 hO4 hbw hg htb htb2 ho3
  go_wp2_with fail
  refine H4.out.2.2.mono ?_
  rintro e w2 ⟨p2, c2, rfl, ho2, hb2⟩
  rw [H.out.2.2.2.2.2.2.2]
  clear hc0 hc1 hc2
  obtain ⟨⟨hf0, hf1, hf2⟩, hc0, hc1, hc2⟩ := (H4.out.2.1.next hb2).facts
  have H2 := Lib.hid (And.intro (ho2.base H4.out.2.1.lt) (H4.out.1.trans (hb2.mono H4.out.1.size)))
  clear ho2 hb2
  go_wp2_with fail
  refine bodyPost_ret (v := .tuple #[.agg #[.int .i64 (K : Int), .int .i64 (R : Int), .slice p2 L c2], .nilIface]) (by simp [results, Tryd.results13, go_sem, hc0, hc1, hc2]) rfl ⟨p2, c2, by rw [H.out.2.2.2.2.2.2.2], ?_, put3_below H2.out.2 (by omega) _ _ _⟩
  exact (H2.out.1.put3 (h := w.heap.size + 1 + 1) (Nat.lt_succ_self _) _ _ _).base (by omega)

set_option maxRecDepth 100000 in
set_option maxHeartbeats 4000000 in
theorem fcompose_bad (k r k' r' : Int) (p q : Option Addr) (n c m d : Nat) (t u : List Int) (w : World) (A : Nat → Addr) (hr : Roots w A) (hn : n = t.length) (hm : m = u.length) (h : IntV w.heap.size w p c t) (h' : IntV w.heap.size w q d u) (L : List (ByteArray × Int)) (x : Nat) (hc : chkF2 k r t k' r' u = some (L, x)) :
    Calls Tryd.prog 14 #[.agg #[.int .i64 k, .int .i64 r, .slice p n c], .agg #[.int .i64 k', .int .i64 r', .slice q m d]] w (FErr2 w A L x noRule) := by
  have H := Lib.hid (And.intro hn (And.intro h (And.intro hr (And.intro hm (And.intro h' hc)))))
  clear hn h hr hm h' hc
  have ST := Lib.hid (three_rules w (.int .i64 k) (.int .i64 r) (.slice p n c) (.int .i64 k') (.int .i64 r') (.slice q m d) (.int .i64 0) (.int .i64 0) (.slice none 0 0))
  go_enter Tryd.func14, Tryd.ntmps14
  go_upto_region 1 with fail
  obtain ⟨w0, hw0⟩ : ∃ w0, w0 = ((w.alloc (.cells #[.int .i64 k, .int .i64 r, .slice p n c] 24)).alloc (.cells #[.int .i64 k', .int .i64 r', .slice q m d] 24)).alloc (.cells #[.int .i64 0, .int .i64 0, .slice none 0 0] 24) := ⟨_, rfl⟩
  rw [← hw0]
  obtain ⟨hb0, hE0, hG0, hF0⟩ := ST.out w0 hw0
  obtain ⟨_, hc0, hc1, hc2⟩ := hE0.facts
  obtain ⟨_, hd0, hd1, hd2⟩ := hG0.facts
  have HE := Lib.hid (And.intro hb0 (And.intro hE0 (And.intro hG0 hF0)))
  clear hw0 hE0 hb0 hF0 hG0
  go_wp2_with fail
  refine (fboth_bad k r k' r' p q n c m d t u w0 A (H.out.2.2.1.below HE.out.1) H.out.1 H.out.2.2.2.1 (H.out.2.1.next HE.out.1) (H.out.2.2.2.2.1.next HE.out.1) L x H.out.2.2.2.2.2).mono ?_
  rintro e w2 ⟨b, rfl, hl2, hb2⟩
  have hE1 := HE.out.2.2.2.next hb2
  have H2 := Lib.hid (And.intro (HE.out.1.trans (hb2.mono HE.out.1.size)) (And.intro hl2 (put3_same hE1)))
  clear hc0 hc1 hc2 hd0 hd1 hd2
  obtain ⟨⟨hf0, hf1, hf2⟩, hc0, hc1, hc2⟩ := hE1.facts
  clear hb2 hl2 hE1
  go_wp2_with fail
  refine bodyPost_ret (v := .tuple #[noRule, .iface 79 (.pointer (some ⟨b, 0, none⟩))]) (by simp [results, Tryd.results14, go_sem, hc0, hc1, hc2, noRule]) rfl ⟨b, rfl, ?_, ?_⟩
  · show Chn (put3 w2 (w.heap.size + 1 + 1) _ _ _) A b _ x
    rw [H2.out.2.2]; exact H2.out.2.1
  · show Below _ _ (put3 w2 (w.heap.size + 1 + 1) _ _ _)
    rw [H2.out.2.2]; exact H2.out.1

set_option maxRecDepth 100000 in
set_option maxHeartbeats 4000000 in
theorem fcompose_arg (K K' a b : Nat) (p q : Option Addr) (n c m d : Nat) (t u : List Int) (w : World) (A : Nat → Addr) (hr : Roots w A) (hn : n = t.length) (hm : m = u.length) (h : IntV w.heap.size w p c t) (h' : IntV w.heap.size w q d u) (ho : OkR K a t) (hu : OkR K' b u) (hne : K ≠ K') :
    Calls Tryd.prog 14 #[.agg #[.int .i64 (K : Int), .int .i64 (a : Int), .slice p n c], .agg #[.int .i64 (K' : Int), .int .i64 (b : Int), .slice q m d]] w (FErr2 w A [(formsOp, 1)] 3 noRule) := by
  have g1 : ¬ (K : Int) = (K' : Int) := by omega
  have H := Lib.hid (And.intro hn (And.intro h (And.intro hm (And.intro h' (And.intro ho (And.intro hu hr))))))
  clear hn h hm h' ho hu hr hne
  have ST := Lib.hid (three_rules w (.int .i64 (K : Int)) (.int .i64 (a : Int)) (.slice p n c) (.int .i64 (K' : Int)) (.int .i64 (b : Int)) (.slice q m d) (.int .i64 0) (.int .i64 0) (.slice none 0 0))
  go_enter Tryd.func14, Tryd.ntmps14
  go_upto_region 1 with fail
  obtain ⟨w0, hw0⟩ : ∃ w0, w0 = ((w.alloc (.cells #[.int .i64 (K : Int), .int .i64 (a : Int), .slice p n c] 24)).alloc (.cells #[.int .i64 (K' : Int), .int .i64 (b : Int), .slice q m d] 24)).alloc (.cells #[.int .i64 0, .int .i64 0, .slice none 0 0] 24) := ⟨_, rfl⟩
  rw [← hw0]
  obtain ⟨hb0, hE0, hG0, hF0⟩ := ST.out w0 hw0
  obtain ⟨_, hc0, hc1, hc2⟩ := hE0.facts
  obtain ⟨_, hd0, hd1, hd2⟩ := hG0.facts
  have HE := Lib.hid (And.intro hb0 (And.intro hE0 (And.intro hG0 hF0)))
  clear hw0 hE0 hb0 hF0 hG0
  go_wp2_with fail
  refine (fboth_ok K a K' b p q n c m d t u w0 H.out.1 H.out.2.2.1 (H.out.2.1.next HE.out.1) (H.out.2.2.2.1.next HE.out.1) H.out.2.2.2.2.1 H.out.2.2.2.2.2.1).mono ?_
  rintro e w1 ⟨rfl, hb1⟩
  have H1 := Lib.hid (And.intro (HE.out.1.trans (hb1.mono HE.out.1.size)) (And.intro (HE.out.2.1.next hb1) (And.intro (HE.out.2.2.1.next hb1) (HE.out.2.2.2.next hb1))))
  clear hc0 hc1 hc2 hd0 hd1 hd2 hb1
  obtain ⟨_, hc0, hc1, hc2⟩ := H1.out.2.1.facts
  obtain ⟨_, hd0, hd1, hd2⟩ := H1.out.2.2.1.facts
  go_wp2_with fail
  refine (new_at formsOp 1 3 w1 A (H.out.2.2.2.2.2.2.below H1.out.1) (by omega)).mono ?_
  rintro e w2 ⟨b', rfl, hl2, hb2⟩
  have hE1 := H1.out.2.2.2.next hb2
  have H2 := Lib.hid (And.intro (H1.out.1.trans (hb2.mono H1.out.1.size)) (And.intro (Chn.one hl2) (put3_same hE1)))
  clear hc0 hc1 hc2 hd0 hd1 hd2
  obtain ⟨⟨hf0, hf1, hf2⟩, hc0, hc1, hc2⟩ := hE1.facts
  clear hb2 hl2 hE1
  go_wp2_with fail
  refine bodyPost_ret (v := .tuple #[noRule, .iface 79 (.pointer (some ⟨b', 0, none⟩))]) (by simp [results, Tryd.results14, go_sem, hc0, hc1, hc2, noRule]) rfl ⟨b', rfl, ?_, ?_⟩
  · show Chn (put3 w2 (w.heap.size + 1 + 1) _ _ _) A b' _ 3
    rw [H2.out.2.2]; exact H2.out.2.1
  · show Below _ _ (put3 w2 (w.heap.size + 1 + 1) _ _ _)
    rw [H2.out.2.2]; exact H2.out.1

set_option maxRecDepth 100000 in
set_option maxHeartbeats 4000000 in
theorem fcompose_big (K a b : Nat) (p q : Option Addr) (n c m d : Nat) (t u : List Int) (w : World) (A : Nat → Addr) (hr : Roots w A) (hn : n = t.length) (hm : m = u.length) (h : IntV w.heap.size w p c t) (h' : IntV w.heap.size w q d u) (ho : OkR K a t) (hu : OkR K b u) (hgt : 3 < a + b) :
    Calls Tryd.prog 14 #[.agg #[.int .i64 (K : Int), .int .i64 (a : Int), .slice p n c], .agg #[.int .i64 (K : Int), .int .i64 (b : Int), .slice q m d]] w (FErr2 w A [(formsOp, 0)] 4 noRule) := by
  have ha3 := ho.r3
  have hb3 := hu.r3
  obtain ⟨S, hS⟩ : ∃ S, a + b = S := ⟨_, rfl⟩
  have e1 : IntKind.i64.wrap ((a : Int) + (b : Int)) = (S : Int) := by rw [IntWalk.i64_in _ (by omega)]; omega
  have g2 : (3 : Int) < (S : Int) := by omega
  have H := Lib.hid (And.intro hn (And.intro h (And.intro hm (And.intro h' (And.intro ho (And.intro hu hr))))))
  clear hn h hm h' ho hu hr hgt ha3 hb3 hS
  have ST := Lib.hid (three_rules w (.int .i64 (K : Int)) (.int .i64 (a : Int)) (.slice p n c) (.int .i64 (K : Int)) (.int .i64 (b : Int)) (.slice q m d) (.int .i64 0) (.int .i64 0) (.slice none 0 0))
  go_enter Tryd.func14, Tryd.ntmps14
  go_upto_region 1 with fail
  obtain ⟨w0, hw0⟩ : ∃ w0, w0 = ((w.alloc (.cells #[.int .i64 (K : Int), .int .i64 (a : Int), .slice p n c] 24)).alloc (.cells #[.int .i64 (K : Int), .int .i64 (b : Int), .slice q m d] 24)).alloc (.cells #[.int .i64 0, .int .i64 0, .slice none 0 0] 24) := ⟨_, rfl⟩
  rw [← hw0]
  obtain ⟨hb0, hE0, hG0, hF0⟩ := ST.out w0 hw0
  obtain ⟨_, hc0, hc1, hc2⟩ := hE0.facts
  obtain ⟨_, hd0, hd1, hd2⟩ := hG0.facts
  have HE := Lib.hid (And.intro hb0 (And.intro hE0 (And.intro hG0 hF0)))
  clear hw0 hE0 hb0 hF0 hG0
  go_wp2_with fail
  refine (fboth_ok K a K b p q n c m d t u w0 H.out.1 H.out.2.2.1 (H.out.2.1.next HE.out.1) (H.out.2.2.2.1.next HE.out.1) H.out.2.2.2.2.1 H.out.2.2.2.2.2.1).mono ?_
  rintro e w1 ⟨rfl, hb1⟩
  have H1 := Lib.hid (And.intro (HE.out.1.trans (hb1.mono HE.out.1.size)) (And.intro (HE.out.2.1.next hb1) (And.intro (HE.out.2.2.1.next hb1) (HE.out.2.2.2.next hb1))))
  clear hc0 hc1 hc2 hd0 hd1 hd2 hb1
  obtain ⟨_, hc0, hc1, hc2⟩ := H1.out.2.1.facts
  obtain ⟨_, hd0, hd1, hd2⟩ := H1.out.2.2.1.facts
  go_wp2_with fail
  refine (new_at formsOp 0 4 w1 A (H.out.2.2.2.2.2.2.below H1.out.1) (by omega)).mono ?_
  rintro e w2 ⟨b', rfl, hl2, hb2⟩
  have hE1 := H1.out.2.2.2.next hb2
  have H2 := Lib.hid (And.intro (H1.out.1.trans (hb2.mono H1.out.1.size)) (And.intro (Chn.one hl2) (put3_same hE1)))
  clear hc0 hc1 hc2 hd0 hd1 hd2
  obtain ⟨⟨hf0, hf1, hf2⟩, hc0, hc1, hc2⟩ := hE1.facts
  clear hb2 hl2 hE1
  go_wp2_with fail
  refine bodyPost_ret (v := .tuple #[noRule, .iface 79 (.pointer (some ⟨b', 0, none⟩))]) (by simp [results, Tryd.results14, go_sem, hc0, hc1, hc2, noRule]) rfl ⟨b', rfl, ?_, ?_⟩
  · show Chn (put3 w2 (w.heap.size + 1 + 1) _ _ _) A b' _ 4
    rw [H2.out.2.2]; exact H2.out.2.1
  · show Below _ _ (put3 w2 (w.heap.size + 1 + 1) _ _ _)
    rw [H2.out.2.2]; exact H2.out.1

set_option maxRecDepth 100000 in
set_option maxHeartbeats 4000000 in
theorem fcompose_ok (K a b : Nat) (p q : Option Addr) (n c m d : Nat) (t u : List Int) (w : World) (hn : n = t.length) (hm : m = u.length) (h : IntV w.heap.size w p c t) (h' : IntV w.heap.size w q d u) (ho : OkR K a t) (hu : OkR K b u) (h3 : a + b ≤ 3) :
    Calls Tryd.prog 14 #[.agg #[.int .i64 (K : Int), .int .i64 (a : Int), .slice p n c], .agg #[.int .i64 (K : Int), .int .i64 (b : Int), .slice q m d]] w (RuleOk w K (a + b) (cmpT K a b t u)) := by
  obtain ⟨S, hS⟩ : ∃ S, a + b = S := ⟨_, rfl⟩
  have e1 : IntKind.i64.wrap ((a : Int) + (b : Int)) = (S : Int) := by rw [IntWalk.i64_in _ (by omega)]; omega
  have g2 : ¬ (3 : Int) < (S : Int) := by omega
  obtain ⟨L, hL⟩ : ∃ L, (cmpT K a b t u).length = L := ⟨_, rfl⟩
  have hcp := fun W hW hW' => compose_any K a b p q n c m d t u W hn hm hW hW' ho hu h3
  rw [hS] at hcp ⊢
  have H := Lib.hid (And.intro hn (And.intro h (And.intro hm (And.intro h' (And.intro ho (And.intro hu (And.intro hcp hL)))))))
  clear hn h hm h' ho hu h3 hS hcp hL
  have ST := Lib.hid (three_rules w (.int .i64 (K : Int)) (.int .i64 (a : Int)) (.slice p n c) (.int .i64 (K : Int)) (.int .i64 (b : Int)) (.slice q m d) (.int .i64 0) (.int .i64 0) (.slice none 0 0))
  go_enter Tryd.func14, Tryd.ntmps14
  go_upto_region 1 with fail
  obtain ⟨w0, hw0⟩ : ∃ w0, w0 = ((w.alloc (.cells #[.int .i64 (K : Int), .int .i64 (a : Int), .slice p n c] 24)).alloc (.cells #[.int .i64 (K : Int), .int .i64 (b : Int), .slice q m d] 24)).alloc (.cells #[.int .i64 0, .int .i64 0, .slice none 0 0] 24) := ⟨_, rfl⟩
  rw [← hw0]
  obtain ⟨hb0, hE0, hG0, hF0⟩ := ST.out w0 hw0
  obtain ⟨_, hc0, hc1, hc2⟩ := hE0.facts
  obtain ⟨_, hd0, hd1, hd2⟩ := hG0.facts
  have HE := Lib.hid (And.intro hb0 (And.intro hE0 (And.intro hG0 hF0)))
  clear hw0 hE0 hb0 hF0 hG0
  go_wp2_with fail
  refine (fboth_ok K a K b p q n c m d t u w0 H.out.1 H.out.2.2.1 (H.out.2.1.next HE.out.1) (H.out.2.2.2.1.next HE.out.1) H.out.2.2.2.2.1 H.out.2.2.2.2.2.1).mono ?_
  rintro e w1 ⟨rfl, hb1⟩
  have H1 := Lib.hid (And.intro (HE.out.1.trans (hb1.mono HE.out.1.size)) (And.intro (HE.out.2.1.next hb1) (And.intro (HE.out.2.2.1.next hb1) (HE.out.2.2.2.next hb1))))
  clear hc0 hc1 hc2 hd0 hd1 hd2 hb1
  obtain ⟨_, hc0, hc1, hc2⟩ := H1.out.2.1.facts
  obtain ⟨_, hd0, hd1, hd2⟩ := H1.out.2.2.1.facts
  go_wp2_with fail
  refine (H.out.2.2.2.2.2.2.1 w1 (H.out.2.1.next H1.out.1) (H.out.2.2.2.1.next H1.out.1)).mono ?_
  rintro e w2 ⟨p2, c2, rfl, ho2, hb2⟩
  rw [H.out.2.2.2.2.2.2.2]
  clear hc0 hc1 hc2 hd0 hd1 hd2
  obtain ⟨⟨hf0, hf1, hf2⟩, hc0, hc1, hc2⟩ := (H1.out.2.2.2.next hb2).facts
  have H2 := Lib.hid (And.intro (ho2.base H1.out.2.2.2.lt) (H1.out.1.trans (hb2.mono H1.out.1.size)))
  clear ho2 hb2
  go_wp2_with fail
  refine bodyPost_ret (v := .tuple #[.agg #[.int .i64 (K : Int), .int .i64 (S : Int), .slice p2 L c2], .nilIface]) (by simp [results, Tryd.results14, go_sem, hc0, hc1, hc2]) rfl ⟨p2, c2, by rw [H.out.2.2.2.2.2.2.2], ?_, put3_below H2.out.2 (by omega) _ _ _⟩
  exact (H2.out.1.put3 (h := w.heap.size + 1 + 1) (Nat.lt_succ_self _) _ _ _).base (by omega)
end Go.Proofs.YtienaogmljlmlaaDoor
end
section
namespace Go.Proofs.YtienaogmljlmlaaDoor
open Go.RowKit Go.Extern.Stop Go.Stop Go.Extern WordM RuleM NatM
attribute [local go_sem ↓] Go.wp_at_zero Go.wp_at_succ

set_option maxRecDepth 100000 in
set_option maxHeartbeats 4000000 in
theorem fsame_bad (k r k' r' : Int) (p q : Option Addr) (n c m d : Nat) (t u : List Int) (w : World) (A : Nat → Addr) (hr : Roots w A) (hn : n = t.length) (hm : m = u.length) (h : IntV w.heap.size w p c t) (h' : IntV w.heap.size w q d u) (L : List (ByteArray × Int)) (x : Nat) (hc : chkF2 k r t k' r' u = some (L, x)) :
    Calls Tryd.prog 17 #[.agg #[.int .i64 k, .int .i64 r, .slice p n c], .agg #[.int .i64 k', .int .i64 r', .slice q m d]] w (FErr2 w A L x (.bool false)) := by
  have H := Lib.hid (And.intro hn (And.intro h (And.intro hr (And.intro hm (And.intro h' hc)))))
  clear hn h hr hm h' hc
  have ST := Lib.hid (two_rules w (.int .i64 k) (.int .i64 r) (.slice p n c) (.int .i64 k') (.int .i64 r') (.slice q m d))
  go_enter Tryd.func17, Tryd.ntmps17
  go_upto_region 1 with fail
  obtain ⟨w0, hw0⟩ : ∃ w0, w0 = (w.alloc (.cells #[.int .i64 k, .int .i64 r, .slice p n c] 24)).alloc (.cells #[.int .i64 k', .int .i64 r', .slice q m d] 24) := ⟨_, rfl⟩
  rw [← hw0]
  obtain ⟨hb0, hE0, hG0⟩ := ST.out w0 hw0
  obtain ⟨_, hc0, hc1, hc2⟩ := hE0.facts
  obtain ⟨_, hd0, hd1, hd2⟩ := hG0.facts
  have HE := Lib.hid hb0
  clear hw0 hE0 hb0 hG0
  go_wp2_with fail
  refine (fboth_bad k r k' r' p q n c m d t u w0 A (H.out.2.2.1.below HE.out) H.out.1 H.out.2.2.2.1 (H.out.2.1.next HE.out) (H.out.2.2.2.2.1.next HE.out) L x H.out.2.2.2.2.2).mono ?_
  rintro e w2 ⟨b, rfl, hl2, hb2⟩
  have H2 := Lib.hid (And.intro (HE.out.trans (hb2.mono HE.out.size)) hl2)
  clear hc0 hc1 hc2 hd0 hd1 hd2 hb2 hl2
  go_wp2_with fail
  go_ret2
  exact ⟨b, rfl, H2.out.2, H2.out.1⟩

theorem both_put (w wb : World) (h : Nat) (A B : Value × Value × Value) (a b : Value × Value × Value) (hE : Rul3 wb h a.1 a.2.1 a.2.2) (hG : Rul3 wb (h + 1) b.1 b.2.1 b.2.2) (hb : Below h w wb) (pa pb : Option Addr) (ca cb : Nat) (va vb : List Int) (base : Nat) (hlt : h + 1 < base) (hoa : IntO base wb pa ca va) (hob : IntO base wb pb cb vb) (wz : World)
    (hz : wz = put3 (put3 wb h A.1 A.2.1 A.2.2) (h + 1) B.1 B.2.1 B.2.2 ∨ wz = put3 (put3 wb (h + 1) B.1 B.2.1 B.2.2) h A.1 A.2.1 A.2.2) :
    Below h w wz ∧ IntV wz.heap.size wz pa ca va ∧ IntV wz.heap.size wz pb cb vb ∧ Rul3 wz h A.1 A.2.1 A.2.2 ∧ Rul3 wz (h + 1) B.1 B.2.1 B.2.2 := by
  rcases hz with rfl | rfl
  · exact ⟨put3_below (put3_below hb (Nat.le_refl _) _ _ _) (Nat.le_succ _) _ _ _, ((hoa.put3 (by omega) _ _ _).put3 hlt _ _ _).toV, ((hob.put3 (by omega) _ _ _).put3 hlt _ _ _).toV, (hE.putF _ _ _).putOther (h + 1) (by omega) _ _ _, (hG.putOther h (by omega) _ _ _).putF _ _ _⟩
  · exact ⟨put3_below (put3_below hb (Nat.le_succ _) _ _ _) (Nat.le_refl _) _ _ _, ((hoa.put3 hlt _ _ _).put3 (by omega) _ _ _).toV, ((hob.put3 hlt _ _ _).put3 (by omega) _ _ _).toV, (hE.putOther (h + 1) (by omega) _ _ _).putF _ _ _, (hG.putF _ _ _).putOther h (by omega) _ _ _⟩
/-- whether two rules have one map -/
def SamePost (w : World) (K R : Nat) (t : List Int) (K' R' : Nat) (u : List Int) (e : Ending) (w' : World) : Prop :=
  ∃ B : Bool, e = .returned (.tuple #[.bool B, .nilIface]) ∧ (B = true ↔ ∃ s v s' v', NarR K R t s v ∧ NarR K' R' u s' v' ∧ K = K' ∧ s = s' ∧ v = v') ∧ Below w.heap.size w w'
set_option maxRecDepth 100000 in
set_option maxHeartbeats 8000000 in
theorem fsame_ok (K R K' R' : Nat) (p q : Option Addr) (n c m d : Nat) (t u : List Int) (w : World) (hn : n = t.length) (hm : m = u.length) (h : IntV w.heap.size w p c t) (h' : IntV w.heap.size w q d u) (ho : OkR K R t) (hu : OkR K' R' u) :
    Calls Tryd.prog 17 #[.agg #[.int .i64 (K : Int), .int .i64 (R : Int), .slice p n c], .agg #[.int .i64 (K' : Int), .int .i64 (R' : Int), .slice q m d]] w (SamePost w K R t K' R' u) := by
  have H := Lib.hid (And.intro hn (And.intro h (And.intro hm (And.intro h' (And.intro ho hu)))))
  clear hn h hm h' ho hu
  have ST := Lib.hid (two_rules w (.int .i64 (K : Int)) (.int .i64 (R : Int)) (.slice p n c) (.int .i64 (K' : Int)) (.int .i64 (R' : Int)) (.slice q m d))
  go_enter Tryd.func17, Tryd.ntmps17
  go_upto_region 1 with fail
  obtain ⟨w0, hw0⟩ : ∃ w0, w0 = (w.alloc (.cells #[.int .i64 (K : Int), .int .i64 (R : Int), .slice p n c] 24)).alloc (.cells #[.int .i64 (K' : Int), .int .i64 (R' : Int), .slice q m d] 24) := ⟨_, rfl⟩
  rw [← hw0]
  obtain ⟨hb0, hE0, hG0⟩ := ST.out w0 hw0
  obtain ⟨_, hc0, hc1, hc2⟩ := hE0.facts
  obtain ⟨_, hd0, hd1, hd2⟩ := hG0.facts
  have HE := Lib.hid (And.intro hb0 (And.intro hE0 hG0))
  clear hw0 hE0 hb0 hG0
  go_wp2_with fail
  refine (fboth_ok K R K' R' p q n c m d t u w0 H.out.1 H.out.2.2.1 (H.out.2.1.next HE.out.1) (H.out.2.2.2.1.next HE.out.1) H.out.2.2.2.2.1 H.out.2.2.2.2.2).mono ?_
  rintro e w1 ⟨rfl, hb1⟩
  have hbw := HE.out.1.trans (hb1.mono HE.out.1.size)
  have hE1 := HE.out.2.1.next hb1
  have hG1 := HE.out.2.2.next hb1
  have hnA : ∀ wx : World, Below w1.heap.size w1 wx → Calls Tryd.prog 39 #[.agg #[.int .i64 (K : Int), .int .i64 (R : Int), .slice p n c]] wx (NarPost wx K R t) := fun wx hbx =>
    narrow_any K R p n c t wx H.out.1 ((H.out.2.1.next hbw).next hbx) H.out.2.2.2.2.1
  have hnB : ∀ wx : World, Below w1.heap.size w1 wx → Calls Tryd.prog 39 #[.agg #[.int .i64 (K' : Int), .int .i64 (R' : Int), .slice q m d]] wx (NarPost wx K' R' u) := fun wx hbx =>
    narrow_any K' R' q m d u wx H.out.2.2.1 ((H.out.2.2.2.1.next hbw).next hbx) H.out.2.2.2.2.2
  have hxA : ∀ wx : World, Below w1.heap.size w1 wx → wx.cell? ⟨w.heap.size + 1, 0, none⟩ = some (.int .i64 (K' : Int)) ∧ wx.cell? ⟨w.heap.size + 1, 1, none⟩ = some (.int .i64 (R' : Int)) ∧ wx.cell? ⟨w.heap.size + 1, 2, none⟩ = some (.slice q m d) := fun wx hbx => (hG1.next hbx).facts.2
  have hxB : ∀ wx : World, Below w1.heap.size w1 wx → wx.cell? ⟨w.heap.size, 0, none⟩ = some (.int .i64 (K : Int)) ∧ wx.cell? ⟨w.heap.size, 1, none⟩ = some (.int .i64 (R : Int)) ∧ wx.cell? ⟨w.heap.size, 2, none⟩ = some (.slice p n c) := fun wx hbx => (hE1.next hbx).facts.2
  have hxF : ∀ wx : World, Below w1.heap.size w1 wx → (wx.frozen? ⟨w.heap.size, 0, none⟩ = false ∧ wx.frozen? ⟨w.heap.size, 1, none⟩ = false ∧ wx.frozen? ⟨w.heap.size, 2, none⟩ = false) ∧ (wx.frozen? ⟨w.heap.size + 1, 0, none⟩ = false ∧ wx.frozen? ⟨w.heap.size + 1, 1, none⟩ = false ∧ wx.frozen? ⟨w.heap.size + 1, 2, none⟩ = false) := fun wx hbx => ⟨(hE1.next hbx).facts.1, (hG1.next hbx).facts.1⟩
  have hd00 : Below w1.heap.size w1 w1.drew := (Below.refl _ _).drew
  have H1 := Lib.hid (And.intro hbw (And.intro hE1 (And.intro hG1 (And.intro hnA hnB))))
  clear hc0 hc1 hc2 hd0 hd1 hd2 hb1 hbw hE1 hG1 hnA hnB
  obtain ⟨hc0, hc1, hc2⟩ := hxB w1 (Below.refl _ _)
  obtain ⟨hd0, hd1, hd2⟩ := hxA w1 (Below.refl _ _)
  go_upto_region 4 with fail
  go_region_with (first
    | (go_at_call 39; refine (H1.out.2.2.2.2 _ hBa).mono ?_; rintro e wb ⟨sb, vb, hNb, pb, cb, rfl, hob, hbb⟩; have hBb : Below w1.heap.size w1 wb := hBa.trans (hbb.mono hBa.size); obtain ⟨⟨hf0, hf1, hf2⟩, hg0, hg1, hg2⟩ := hxF _ hBb; obtain ⟨hx0, hx1, hx2⟩ := hxB _ hBb; obtain ⟨hy0, hy1, hy2⟩ := hxA _ hBb)
    | (go_at_call 39; refine (H1.out.2.2.2.1 _ hd00).mono ?_; rintro e wa ⟨sa, va, hNa, pa, ca, rfl, hoa, hba⟩; have hBa : Below w1.heap.size w1 wa := hd00.trans (hba.mono hd00.size); obtain ⟨ha0, ha1, ha2⟩ := hxA _ hBa))
  all_goals
    obtain ⟨la, hla⟩ : ∃ x, va.length = x := ⟨_, rfl⟩
    obtain ⟨lb, hlb⟩ : ∃ x, vb.length = x := ⟨_, rfl⟩
    rw [hla, hlb]
    have hbt := both_put w wb w.heap.size (.int .i64 (K : Int), .int .i64 (sa : Int), .slice pa la ca) (.int .i64 (K' : Int), .int .i64 (sb : Int), .slice pb lb cb) (.int .i64 (K : Int), .int .i64 (R : Int), .slice p n c) (.int .i64 (K' : Int), .int .i64 (R' : Int), .slice q m d) (H1.out.2.1.next hBb) (H1.out.2.2.1.next hBb) (H1.out.1.trans (hBb.mono H1.out.1.size)) pa pb ca cb va vb w1.heap.size H1.out.2.2.1.lt (hoa.next hbb) (hob.base hBa.size)
    obtain ⟨wz, hwz, hz⟩ : ∃ wz, wz = put3 (put3 wb w.heap.size (.int .i64 (K : Int)) (.int .i64 (sa : Int)) (.slice pa la ca)) (w.heap.size + 1) (.int .i64 (K' : Int)) (.int .i64 (sb : Int)) (.slice pb lb cb) ∧ (wz = put3 (put3 wb w.heap.size (.int .i64 (K : Int)) (.int .i64 (sa : Int)) (.slice pa la ca)) (w.heap.size + 1) (.int .i64 (K' : Int)) (.int .i64 (sb : Int)) (.slice pb lb cb) ∨ wz = put3 (put3 wb (w.heap.size + 1) (.int .i64 (K' : Int)) (.int .i64 (sb : Int)) (.slice pb lb cb)) w.heap.size (.int .i64 (K : Int)) (.int .i64 (sa : Int)) (.slice pa la ca)) := ⟨_, rfl, Or.inl rfl⟩
    obtain ⟨wy, hwy, hy⟩ : ∃ wz, wz = put3 (put3 wb (w.heap.size + 1) (.int .i64 (K' : Int)) (.int .i64 (sb : Int)) (.slice pb lb cb)) w.heap.size (.int .i64 (K : Int)) (.int .i64 (sa : Int)) (.slice pa la ca) ∧ (wz = put3 (put3 wb w.heap.size (.int .i64 (K : Int)) (.int .i64 (sa : Int)) (.slice pa la ca)) (w.heap.size + 1) (.int .i64 (K' : Int)) (.int .i64 (sb : Int)) (.slice pb lb cb) ∨ wz = put3 (put3 wb (w.heap.size + 1) (.int .i64 (K' : Int)) (.int .i64 (sb : Int)) (.slice pb lb cb)) w.heap.size (.int .i64 (K : Int)) (.int .i64 (sa : Int)) (.slice pa la ca)) := ⟨_, rfl, Or.inr rfl⟩
    have hzz := hbt wz hz
    have hyy := hbt wy hy
    unfold put3 at hwz hwy
    clear hbt hz hy
    first
      | (rw [← hwz]; have HZ := Lib.hid hzz)
      | (rw [← hwy]; have HZ := Lib.hid hyy)
    have HN := Lib.hid (And.intro hNa (And.intro hNb (And.intro hla hlb)))
    clear hwz hwy hzz hyy hNa hNb hla hlb hc0 hc1 hc2 hd0 hd1 hd2 hoa hob hba hbb hBa hBb hxA hxB hxF hd00 ha0 ha1 ha2 hf0 hf1 hf2 hg0 hg1 hg2 hx0 hx1 hx2 hy0 hy1 hy2
    obtain ⟨_, hc0, hc1, hc2⟩ := HZ.out.2.2.2.1.facts
    obtain ⟨_, hd0, hd1, hd2⟩ := HZ.out.2.2.2.2.facts
    by_cases hK : K = K'
    · by_cases hs : sa = sb
      · subst hK hs
        have hll : va.length = vb.length := by rw [HN.out.1.ok.len, HN.out.2.1.ok.len]
        have hEq : Hid (Calls Tryd.prog 40 #[.slice pa la ca, .slice pb lb cb] _ (Tells (.bool (sameI va vb)) _)) := Quiet.tells (equal_q pa pb la lb ca cb va vb _ HN.out.2.2.1.symm HN.out.2.2.2.symm hll HZ.out.2.1 HZ.out.2.2.1)
        obtain ⟨B, hB⟩ : ∃ B, sameI va vb = B := ⟨_, rfl⟩
        rw [hB] at hEq
        have HB := Lib.hid hB
        clear hll hB
        go_wp2_with fail
        refine hEq.out.mono ?_
        rintro e wq ⟨rfl, hbq⟩
        have HQ := Lib.hid (HZ.out.1.trans (hbq.mono HZ.out.1.size))
        clear hbq
        go_wp2_with fail
        go_ret2
        refine ⟨B, rfl, ⟨fun hb => ⟨sa, va, sa, vb, HN.out.1, HN.out.2.1, rfl, rfl, of_sameI (HB.out.trans hb)⟩, ?_⟩, HQ.out⟩
        rintro ⟨s, v, s', v', h1, h2, _, _, h3⟩
        obtain ⟨_, rfl⟩ := h1.unique HN.out.1
        obtain ⟨_, rfl⟩ := h2.unique HN.out.2.1
        rw [← HB.out, h3]
        exact sameI_self _
      · have hs' : ¬ (sa : Int) = (sb : Int) := by omega
        subst hK
        have HS := Lib.hid hs
        clear hs
        go_wp2_with fail
        go_ret2
        refine ⟨false, rfl, ⟨fun hb => (by cases hb), ?_⟩, HZ.out.1⟩
        rintro ⟨s, v, s', v', h1, h2, _, h3, _⟩
        obtain ⟨rfl, _⟩ := h1.unique HN.out.1
        obtain ⟨rfl, _⟩ := h2.unique HN.out.2.1
        exact absurd h3 HS.out
    · have hK' : ¬ (K : Int) = (K' : Int) := by omega
      have HK := Lib.hid hK
      clear hK
      go_wp2_with fail
      go_ret2
      refine ⟨false, rfl, ⟨fun hb => (by cases hb), ?_⟩, HZ.out.1⟩
      rintro ⟨s, v, s', v', h1, h2, h3, _⟩
      exact absurd h3 HK.out
end Go.Proofs.YtienaogmljlmlaaDoor
end
section
namespace Go.Proofs.YtienaogmljlmlaaDoor
open Go.RowKit Go.Extern.Stop Go.Stop Go.Extern WordM RuleM NatM

/-- the first byte that begins no rule's text, of a text of n bytes that begins with these -/
def fwS (n a b c d : Nat) : Nat :=
  if n = 0 ∨ a < 49 ∨ 52 < a then 0 else if n = 1 ∨ b ≠ 46 then 1 else if n = 2 ∨ c < 48 ∨ 51 < c then 2 else if n = 3 ∨ d ≠ 46 then 3 else 4
def byteS (s : ByteArray) (i : Nat) : Nat := (bsOf s).getD i 0
theorem byteS_get {s : ByteArray} {i : Nat} (h : i < s.size) : byteS s i = (s[i]).toNat := by
  unfold byteS
  rw [List.getD_eq_getElem?_getD, bsOf_get h]; rfl
/-- the same of a text -/
def fwT (s : ByteArray) : Nat := fwS s.size (byteS s 0) (byteS s 1) (byteS s 2) (byteS s 3)
theorem fwT_le (s : ByteArray) : fwT s ≤ 4 := by
  unfold fwT fwS
  split <;> (try split) <;> (try split) <;> (try split) <;> omega
def FwPost (w : World) (s : ByteArray) (e : Ending) (w' : World) : Prop := e = .returned (.int .i64 (fwT s : Int)) ∧ w = w'
theorem fw_post {w : World} {s : ByteArray} {n : Nat} (h : fwT s = n) : FwPost w s (.returned (.int .i64 (n : Int))) w := ⟨by rw [h], rfl⟩

theorem fw_size {s : ByteArray} {n : Nat} (h : min s.size 4 = n) : fwT s = fwS n (byteS s 0) (byteS s 1) (byteS s 2) (byteS s 3) := by
  unfold fwT fwS
  split <;> split <;> (try split) <;> (try split) <;> (try split) <;> (try split) <;> (try split) <;> (try split) <;> omega

set_option maxRecDepth 100000 in
set_option maxHeartbeats 8000000 in
theorem fw_0 (s : ByteArray) (w : World) (h : s.size = 0) :
    Calls Tryd.prog 44 #[.string s] w (FwPost w s) := by
  have hm : min s.size 4 = 0 := by omega
  have HM := Lib.hid (fw_size hm)
  clear hm
  have hf : fwT s = 0 := by rw [HM.out]; unfold fwS; rw [if_pos (by omega)]
  have HF := Lib.hid hf
  clear hf HM
  go_enter Tryd.func44, Tryd.ntmps44
  go_wp2_with fail
  go_ret
  exact fw_post HF.out
set_option maxRecDepth 100000 in
set_option maxHeartbeats 8000000 in
theorem fw_1 (s : ByteArray) (w : World) (h : s.size = 1) :
    Calls Tryd.prog 44 #[.string s] w (FwPost w s) := by
  have l0 : 0 < s.size := by omega
  have hm : min s.size 4 = 1 := by omega
  have HM := Lib.hid (fw_size hm)
  clear hm
  have e0 := byteS_get l0
  by_cases c0 : (s[0].toNat : Int) < 49
  · skip
    have hf : fwT s = 0 := by rw [HM.out, e0]; unfold fwS; rw [if_pos (by omega)]
    have HF := Lib.hid hf
    clear hf HM e0
    go_enter Tryd.func44, Tryd.ntmps44
    go_wp2_with fail
    go_ret
    exact fw_post HF.out
  · by_cases d0 : 52 < (s[0].toNat : Int)
    · skip
      have hf : fwT s = 0 := by rw [HM.out, e0]; unfold fwS; rw [if_pos (by omega)]
      have HF := Lib.hid hf
      clear hf HM e0
      go_enter Tryd.func44, Tryd.ntmps44
      go_wp2_with fail
      go_ret
      exact fw_post HF.out
    · skip
      have hf : fwT s = 1 := by rw [HM.out, e0]; unfold fwS; rw [if_neg (by omega), if_pos (by omega)]
      have HF := Lib.hid hf
      clear hf HM e0
      go_enter Tryd.func44, Tryd.ntmps44
      go_wp2_with fail
      go_ret
      exact fw_post HF.out
set_option maxRecDepth 100000 in
set_option maxHeartbeats 8000000 in
theorem fw_2 (s : ByteArray) (w : World) (h : s.size = 2) :
    Calls Tryd.prog 44 #[.string s] w (FwPost w s) := by
  have l1 : 1 < s.size := by omega
  have l0 : 0 < s.size := by omega
  have hm : min s.size 4 = 2 := by omega
  have HM := Lib.hid (fw_size hm)
  clear hm
  have e1 := byteS_get l1
  have e0 := byteS_get l0
  by_cases c1 : (s[1].toNat : Int) = 46
  · skip
    by_cases c0 : (s[0].toNat : Int) < 49
    · skip
      have hf : fwT s = 0 := by rw [HM.out, e1, e0]; unfold fwS; rw [if_pos (by omega)]
      have HF := Lib.hid hf
      clear hf HM e1 e0
      go_enter Tryd.func44, Tryd.ntmps44
      go_wp2_with fail
      go_ret
      exact fw_post HF.out
    · by_cases d0 : 52 < (s[0].toNat : Int)
      · skip
        have hf : fwT s = 0 := by rw [HM.out, e1, e0]; unfold fwS; rw [if_pos (by omega)]
        have HF := Lib.hid hf
        clear hf HM e1 e0
        go_enter Tryd.func44, Tryd.ntmps44
        go_wp2_with fail
        go_ret
        exact fw_post HF.out
      · skip
        have hf : fwT s = 2 := by rw [HM.out, e1, e0]; unfold fwS; rw [if_neg (by omega), if_neg (by omega), if_pos (by omega)]
        have HF := Lib.hid hf
        clear hf HM e1 e0
        go_enter Tryd.func44, Tryd.ntmps44
        go_wp2_with fail
        go_ret
        exact fw_post HF.out
  · skip
    by_cases c0 : (s[0].toNat : Int) < 49
    · skip
      have hf : fwT s = 0 := by rw [HM.out, e1, e0]; unfold fwS; rw [if_pos (by omega)]
      have HF := Lib.hid hf
      clear hf HM e1 e0
      go_enter Tryd.func44, Tryd.ntmps44
      go_wp2_with fail
      go_ret
      exact fw_post HF.out
    · by_cases d0 : 52 < (s[0].toNat : Int)
      · skip
        have hf : fwT s = 0 := by rw [HM.out, e1, e0]; unfold fwS; rw [if_pos (by omega)]
        have HF := Lib.hid hf
        clear hf HM e1 e0
        go_enter Tryd.func44, Tryd.ntmps44
        go_wp2_with fail
        go_ret
        exact fw_post HF.out
      · skip
        have hf : fwT s = 1 := by rw [HM.out, e1, e0]; unfold fwS; rw [if_neg (by omega), if_pos (by omega)]
        have HF := Lib.hid hf
        clear hf HM e1 e0
        go_enter Tryd.func44, Tryd.ntmps44
        go_wp2_with fail
        go_ret
        exact fw_post HF.out
set_option maxRecDepth 100000 in
set_option maxHeartbeats 8000000 in
theorem fw_3 (s : ByteArray) (w : World) (h : s.size = 3) :
    Calls Tryd.prog 44 #[.string s] w (FwPost w s) := by
  have l2 : 2 < s.size := by omega
  have l1 : 1 < s.size := by omega
  have l0 : 0 < s.size := by omega
  have hm : min s.size 4 = 3 := by omega
  have HM := Lib.hid (fw_size hm)
  clear hm
  have e2 := byteS_get l2
  have e1 := byteS_get l1
  have e0 := byteS_get l0
  by_cases c2 : (s[2].toNat : Int) < 48
  · skip
    by_cases c1 : (s[1].toNat : Int) = 46
    · skip
      by_cases c0 : (s[0].toNat : Int) < 49
      · skip
        have hf : fwT s = 0 := by rw [HM.out, e2, e1, e0]; unfold fwS; rw [if_pos (by omega)]
        have HF := Lib.hid hf
        clear hf HM e2 e1 e0
        go_enter Tryd.func44, Tryd.ntmps44
        go_wp2_with fail
        go_ret
        exact fw_post HF.out
      · by_cases d0 : 52 < (s[0].toNat : Int)
        · skip
          have hf : fwT s = 0 := by rw [HM.out, e2, e1, e0]; unfold fwS; rw [if_pos (by omega)]
          have HF := Lib.hid hf
          clear hf HM e2 e1 e0
          go_enter Tryd.func44, Tryd.ntmps44
          go_wp2_with fail
          go_ret
          exact fw_post HF.out
        · skip
          have hf : fwT s = 2 := by rw [HM.out, e2, e1, e0]; unfold fwS; rw [if_neg (by omega), if_neg (by omega), if_pos (by omega)]
          have HF := Lib.hid hf
          clear hf HM e2 e1 e0
          go_enter Tryd.func44, Tryd.ntmps44
          go_wp2_with fail
          go_ret
          exact fw_post HF.out
    · skip
      by_cases c0 : (s[0].toNat : Int) < 49
      · skip
        have hf : fwT s = 0 := by rw [HM.out, e2, e1, e0]; unfold fwS; rw [if_pos (by omega)]
        have HF := Lib.hid hf
        clear hf HM e2 e1 e0
        go_enter Tryd.func44, Tryd.ntmps44
        go_wp2_with fail
        go_ret
        exact fw_post HF.out
      · by_cases d0 : 52 < (s[0].toNat : Int)
        · skip
          have hf : fwT s = 0 := by rw [HM.out, e2, e1, e0]; unfold fwS; rw [if_pos (by omega)]
          have HF := Lib.hid hf
          clear hf HM e2 e1 e0
          go_enter Tryd.func44, Tryd.ntmps44
          go_wp2_with fail
          go_ret
          exact fw_post HF.out
        · skip
          have hf : fwT s = 1 := by rw [HM.out, e2, e1, e0]; unfold fwS; rw [if_neg (by omega), if_pos (by omega)]
          have HF := Lib.hid hf
          clear hf HM e2 e1 e0
          go_enter Tryd.func44, Tryd.ntmps44
          go_wp2_with fail
          go_ret
          exact fw_post HF.out
  · by_cases d2 : 51 < (s[2].toNat : Int)
    · skip
      by_cases c1 : (s[1].toNat : Int) = 46
      · skip
        by_cases c0 : (s[0].toNat : Int) < 49
        · skip
          have hf : fwT s = 0 := by rw [HM.out, e2, e1, e0]; unfold fwS; rw [if_pos (by omega)]
          have HF := Lib.hid hf
          clear hf HM e2 e1 e0
          go_enter Tryd.func44, Tryd.ntmps44
          go_wp2_with fail
          go_ret
          exact fw_post HF.out
        · by_cases d0 : 52 < (s[0].toNat : Int)
          · skip
            have hf : fwT s = 0 := by rw [HM.out, e2, e1, e0]; unfold fwS; rw [if_pos (by omega)]
            have HF := Lib.hid hf
            clear hf HM e2 e1 e0
            go_enter Tryd.func44, Tryd.ntmps44
            go_wp2_with fail
            go_ret
            exact fw_post HF.out
          · skip
            have hf : fwT s = 2 := by rw [HM.out, e2, e1, e0]; unfold fwS; rw [if_neg (by omega), if_neg (by omega), if_pos (by omega)]
            have HF := Lib.hid hf
            clear hf HM e2 e1 e0
            go_enter Tryd.func44, Tryd.ntmps44
            go_wp2_with fail
            go_ret
            exact fw_post HF.out
      · skip
        by_cases c0 : (s[0].toNat : Int) < 49
        · skip
          have hf : fwT s = 0 := by rw [HM.out, e2, e1, e0]; unfold fwS; rw [if_pos (by omega)]
          have HF := Lib.hid hf
          clear hf HM e2 e1 e0
          go_enter Tryd.func44, Tryd.ntmps44
          go_wp2_with fail
          go_ret
          exact fw_post HF.out
        · by_cases d0 : 52 < (s[0].toNat : Int)
          · skip
            have hf : fwT s = 0 := by rw [HM.out, e2, e1, e0]; unfold fwS; rw [if_pos (by omega)]
            have HF := Lib.hid hf
            clear hf HM e2 e1 e0
            go_enter Tryd.func44, Tryd.ntmps44
            go_wp2_with fail
            go_ret
            exact fw_post HF.out
          · skip
            have hf : fwT s = 1 := by rw [HM.out, e2, e1, e0]; unfold fwS; rw [if_neg (by omega), if_pos (by omega)]
            have HF := Lib.hid hf
            clear hf HM e2 e1 e0
            go_enter Tryd.func44, Tryd.ntmps44
            go_wp2_with fail
            go_ret
            exact fw_post HF.out
    · skip
      by_cases c1 : (s[1].toNat : Int) = 46
      · skip
        by_cases c0 : (s[0].toNat : Int) < 49
        · skip
          have hf : fwT s = 0 := by rw [HM.out, e2, e1, e0]; unfold fwS; rw [if_pos (by omega)]
          have HF := Lib.hid hf
          clear hf HM e2 e1 e0
          go_enter Tryd.func44, Tryd.ntmps44
          go_wp2_with fail
          go_ret
          exact fw_post HF.out
        · by_cases d0 : 52 < (s[0].toNat : Int)
          · skip
            have hf : fwT s = 0 := by rw [HM.out, e2, e1, e0]; unfold fwS; rw [if_pos (by omega)]
            have HF := Lib.hid hf
            clear hf HM e2 e1 e0
            go_enter Tryd.func44, Tryd.ntmps44
            go_wp2_with fail
            go_ret
            exact fw_post HF.out
          · skip
            have hf : fwT s = 3 := by rw [HM.out, e2, e1, e0]; unfold fwS; rw [if_neg (by omega), if_neg (by omega), if_neg (by omega), if_pos (by omega)]
            have HF := Lib.hid hf
            clear hf HM e2 e1 e0
            go_enter Tryd.func44, Tryd.ntmps44
            go_wp2_with fail
            go_ret
            exact fw_post HF.out
      · skip
        by_cases c0 : (s[0].toNat : Int) < 49
        · skip
          have hf : fwT s = 0 := by rw [HM.out, e2, e1, e0]; unfold fwS; rw [if_pos (by omega)]
          have HF := Lib.hid hf
          clear hf HM e2 e1 e0
          go_enter Tryd.func44, Tryd.ntmps44
          go_wp2_with fail
          go_ret
          exact fw_post HF.out
        · by_cases d0 : 52 < (s[0].toNat : Int)
          · skip
            have hf : fwT s = 0 := by rw [HM.out, e2, e1, e0]; unfold fwS; rw [if_pos (by omega)]
            have HF := Lib.hid hf
            clear hf HM e2 e1 e0
            go_enter Tryd.func44, Tryd.ntmps44
            go_wp2_with fail
            go_ret
            exact fw_post HF.out
          · skip
            have hf : fwT s = 1 := by rw [HM.out, e2, e1, e0]; unfold fwS; rw [if_neg (by omega), if_pos (by omega)]
            have HF := Lib.hid hf
            clear hf HM e2 e1 e0
            go_enter Tryd.func44, Tryd.ntmps44
            go_wp2_with fail
            go_ret
            exact fw_post HF.out
set_option maxRecDepth 100000 in
set_option maxHeartbeats 8000000 in
theorem fw_4 (s : ByteArray) (w : World) (hs : s.size ≤ 9223372036854775807) (h : 4 ≤ s.size) :
    Calls Tryd.prog 44 #[.string s] w (FwPost w s) := by
  have l3 : 3 < s.size := by omega
  have l2 : 2 < s.size := by omega
  have l1 : 1 < s.size := by omega
  have l0 : 0 < s.size := by omega
  have hm : min s.size 4 = 4 := by omega
  have HM := Lib.hid (fw_size hm)
  clear hm
  have e3 := byteS_get l3
  have e2 := byteS_get l2
  have e1 := byteS_get l1
  have e0 := byteS_get l0
  by_cases c3 : (s[3].toNat : Int) = 46
  · skip
    by_cases c2 : (s[2].toNat : Int) < 48
    · skip
      by_cases c1 : (s[1].toNat : Int) = 46
      · skip
        by_cases c0 : (s[0].toNat : Int) < 49
        · skip
          have hf : fwT s = 0 := by rw [HM.out, e3, e2, e1, e0]; unfold fwS; rw [if_pos (by omega)]
          have HF := Lib.hid hf
          clear hf HM e3 e2 e1 e0
          go_enter Tryd.func44, Tryd.ntmps44
          go_wp2_with fail
          go_ret
          exact fw_post HF.out
        · by_cases d0 : 52 < (s[0].toNat : Int)
          · skip
            have hf : fwT s = 0 := by rw [HM.out, e3, e2, e1, e0]; unfold fwS; rw [if_pos (by omega)]
            have HF := Lib.hid hf
            clear hf HM e3 e2 e1 e0
            go_enter Tryd.func44, Tryd.ntmps44
            go_wp2_with fail
            go_ret
            exact fw_post HF.out
          · skip
            have hf : fwT s = 2 := by rw [HM.out, e3, e2, e1, e0]; unfold fwS; rw [if_neg (by omega), if_neg (by omega), if_pos (by omega)]
            have HF := Lib.hid hf
            clear hf HM e3 e2 e1 e0
            go_enter Tryd.func44, Tryd.ntmps44
            go_wp2_with fail
            go_ret
            exact fw_post HF.out
      · skip
        by_cases c0 : (s[0].toNat : Int) < 49
        · skip
          have hf : fwT s = 0 := by rw [HM.out, e3, e2, e1, e0]; unfold fwS; rw [if_pos (by omega)]
          have HF := Lib.hid hf
          clear hf HM e3 e2 e1 e0
          go_enter Tryd.func44, Tryd.ntmps44
          go_wp2_with fail
          go_ret
          exact fw_post HF.out
        · by_cases d0 : 52 < (s[0].toNat : Int)
          · skip
            have hf : fwT s = 0 := by rw [HM.out, e3, e2, e1, e0]; unfold fwS; rw [if_pos (by omega)]
            have HF := Lib.hid hf
            clear hf HM e3 e2 e1 e0
            go_enter Tryd.func44, Tryd.ntmps44
            go_wp2_with fail
            go_ret
            exact fw_post HF.out
          · skip
            have hf : fwT s = 1 := by rw [HM.out, e3, e2, e1, e0]; unfold fwS; rw [if_neg (by omega), if_pos (by omega)]
            have HF := Lib.hid hf
            clear hf HM e3 e2 e1 e0
            go_enter Tryd.func44, Tryd.ntmps44
            go_wp2_with fail
            go_ret
            exact fw_post HF.out
    · by_cases d2 : 51 < (s[2].toNat : Int)
      · skip
        by_cases c1 : (s[1].toNat : Int) = 46
        · skip
          by_cases c0 : (s[0].toNat : Int) < 49
          · skip
            have hf : fwT s = 0 := by rw [HM.out, e3, e2, e1, e0]; unfold fwS; rw [if_pos (by omega)]
            have HF := Lib.hid hf
            clear hf HM e3 e2 e1 e0
            go_enter Tryd.func44, Tryd.ntmps44
            go_wp2_with fail
            go_ret
            exact fw_post HF.out
          · by_cases d0 : 52 < (s[0].toNat : Int)
            · skip
              have hf : fwT s = 0 := by rw [HM.out, e3, e2, e1, e0]; unfold fwS; rw [if_pos (by omega)]
              have HF := Lib.hid hf
              clear hf HM e3 e2 e1 e0
              go_enter Tryd.func44, Tryd.ntmps44
              go_wp2_with fail
              go_ret
              exact fw_post HF.out
            · skip
              have hf : fwT s = 2 := by rw [HM.out, e3, e2, e1, e0]; unfold fwS; rw [if_neg (by omega), if_neg (by omega), if_pos (by omega)]
              have HF := Lib.hid hf
              clear hf HM e3 e2 e1 e0
              go_enter Tryd.func44, Tryd.ntmps44
              go_wp2_with fail
              go_ret
              exact fw_post HF.out
        · skip
          by_cases c0 : (s[0].toNat : Int) < 49
          · skip
            have hf : fwT s = 0 := by rw [HM.out, e3, e2, e1, e0]; unfold fwS; rw [if_pos (by omega)]
            have HF := Lib.hid hf
            clear hf HM e3 e2 e1 e0
            go_enter Tryd.func44, Tryd.ntmps44
            go_wp2_with fail
            go_ret
            exact fw_post HF.out
          · by_cases d0 : 52 < (s[0].toNat : Int)
            · skip
              have hf : fwT s = 0 := by rw [HM.out, e3, e2, e1, e0]; unfold fwS; rw [if_pos (by omega)]
              have HF := Lib.hid hf
              clear hf HM e3 e2 e1 e0
              go_enter Tryd.func44, Tryd.ntmps44
              go_wp2_with fail
              go_ret
              exact fw_post HF.out
            · skip
              have hf : fwT s = 1 := by rw [HM.out, e3, e2, e1, e0]; unfold fwS; rw [if_neg (by omega), if_pos (by omega)]
              have HF := Lib.hid hf
              clear hf HM e3 e2 e1 e0
              go_enter Tryd.func44, Tryd.ntmps44
              go_wp2_with fail
              go_ret
              exact fw_post HF.out
      · skip
        by_cases c1 : (s[1].toNat : Int) = 46
        · skip
          by_cases c0 : (s[0].toNat : Int) < 49
          · skip
            have hf : fwT s = 0 := by rw [HM.out, e3, e2, e1, e0]; unfold fwS; rw [if_pos (by omega)]
            have HF := Lib.hid hf
            clear hf HM e3 e2 e1 e0
            go_enter Tryd.func44, Tryd.ntmps44
            go_wp2_with fail
            go_ret
            exact fw_post HF.out
          · by_cases d0 : 52 < (s[0].toNat : Int)
            · skip
              have hf : fwT s = 0 := by rw [HM.out, e3, e2, e1, e0]; unfold fwS; rw [if_pos (by omega)]
              have HF := Lib.hid hf
              clear hf HM e3 e2 e1 e0
              go_enter Tryd.func44, Tryd.ntmps44
              go_wp2_with fail
              go_ret
              exact fw_post HF.out
            · skip
              have hf : fwT s = 4 := by rw [HM.out, e3, e2, e1, e0]; unfold fwS; rw [if_neg (by omega), if_neg (by omega), if_neg (by omega), if_neg (by omega)]
              have HF := Lib.hid hf
              clear hf HM e3 e2 e1 e0
              go_enter Tryd.func44, Tryd.ntmps44
              go_wp2_with fail
              go_ret
              exact ⟨by rw [HF.out]; show Ending.returned (.int .i64 (min (s.size : Int) 4)) = _; rw [show min (s.size : Int) 4 = 4 by omega]; rfl, rfl⟩
        · skip
          by_cases c0 : (s[0].toNat : Int) < 49
          · skip
            have hf : fwT s = 0 := by rw [HM.out, e3, e2, e1, e0]; unfold fwS; rw [if_pos (by omega)]
            have HF := Lib.hid hf
            clear hf HM e3 e2 e1 e0
            go_enter Tryd.func44, Tryd.ntmps44
            go_wp2_with fail
            go_ret
            exact fw_post HF.out
          · by_cases d0 : 52 < (s[0].toNat : Int)
            · skip
              have hf : fwT s = 0 := by rw [HM.out, e3, e2, e1, e0]; unfold fwS; rw [if_pos (by omega)]
              have HF := Lib.hid hf
              clear hf HM e3 e2 e1 e0
              go_enter Tryd.func44, Tryd.ntmps44
              go_wp2_with fail
              go_ret
              exact fw_post HF.out
            · skip
              have hf : fwT s = 1 := by rw [HM.out, e3, e2, e1, e0]; unfold fwS; rw [if_neg (by omega), if_pos (by omega)]
              have HF := Lib.hid hf
              clear hf HM e3 e2 e1 e0
              go_enter Tryd.func44, Tryd.ntmps44
              go_wp2_with fail
              go_ret
              exact fw_post HF.out
  · skip
    by_cases c2 : (s[2].toNat : Int) < 48
    · skip
      by_cases c1 : (s[1].toNat : Int) = 46
      · skip
        by_cases c0 : (s[0].toNat : Int) < 49
        · skip
          have hf : fwT s = 0 := by rw [HM.out, e3, e2, e1, e0]; unfold fwS; rw [if_pos (by omega)]
          have HF := Lib.hid hf
          clear hf HM e3 e2 e1 e0
          go_enter Tryd.func44, Tryd.ntmps44
          go_wp2_with fail
          go_ret
          exact fw_post HF.out
        · by_cases d0 : 52 < (s[0].toNat : Int)
          · skip
            have hf : fwT s = 0 := by rw [HM.out, e3, e2, e1, e0]; unfold fwS; rw [if_pos (by omega)]
            have HF := Lib.hid hf
            clear hf HM e3 e2 e1 e0
            go_enter Tryd.func44, Tryd.ntmps44
            go_wp2_with fail
            go_ret
            exact fw_post HF.out
          · skip
            have hf : fwT s = 2 := by rw [HM.out, e3, e2, e1, e0]; unfold fwS; rw [if_neg (by omega), if_neg (by omega), if_pos (by omega)]
            have HF := Lib.hid hf
            clear hf HM e3 e2 e1 e0
            go_enter Tryd.func44, Tryd.ntmps44
            go_wp2_with fail
            go_ret
            exact fw_post HF.out
      · skip
        by_cases c0 : (s[0].toNat : Int) < 49
        · skip
          have hf : fwT s = 0 := by rw [HM.out, e3, e2, e1, e0]; unfold fwS; rw [if_pos (by omega)]
          have HF := Lib.hid hf
          clear hf HM e3 e2 e1 e0
          go_enter Tryd.func44, Tryd.ntmps44
          go_wp2_with fail
          go_ret
          exact fw_post HF.out
        · by_cases d0 : 52 < (s[0].toNat : Int)
          · skip
            have hf : fwT s = 0 := by rw [HM.out, e3, e2, e1, e0]; unfold fwS; rw [if_pos (by omega)]
            have HF := Lib.hid hf
            clear hf HM e3 e2 e1 e0
            go_enter Tryd.func44, Tryd.ntmps44
            go_wp2_with fail
            go_ret
            exact fw_post HF.out
          · skip
            have hf : fwT s = 1 := by rw [HM.out, e3, e2, e1, e0]; unfold fwS; rw [if_neg (by omega), if_pos (by omega)]
            have HF := Lib.hid hf
            clear hf HM e3 e2 e1 e0
            go_enter Tryd.func44, Tryd.ntmps44
            go_wp2_with fail
            go_ret
            exact fw_post HF.out
    · by_cases d2 : 51 < (s[2].toNat : Int)
      · skip
        by_cases c1 : (s[1].toNat : Int) = 46
        · skip
          by_cases c0 : (s[0].toNat : Int) < 49
          · skip
            have hf : fwT s = 0 := by rw [HM.out, e3, e2, e1, e0]; unfold fwS; rw [if_pos (by omega)]
            have HF := Lib.hid hf
            clear hf HM e3 e2 e1 e0
            go_enter Tryd.func44, Tryd.ntmps44
            go_wp2_with fail
            go_ret
            exact fw_post HF.out
          · by_cases d0 : 52 < (s[0].toNat : Int)
            · skip
              have hf : fwT s = 0 := by rw [HM.out, e3, e2, e1, e0]; unfold fwS; rw [if_pos (by omega)]
              have HF := Lib.hid hf
              clear hf HM e3 e2 e1 e0
              go_enter Tryd.func44, Tryd.ntmps44
              go_wp2_with fail
              go_ret
              exact fw_post HF.out
            · skip
              have hf : fwT s = 2 := by rw [HM.out, e3, e2, e1, e0]; unfold fwS; rw [if_neg (by omega), if_neg (by omega), if_pos (by omega)]
              have HF := Lib.hid hf
              clear hf HM e3 e2 e1 e0
              go_enter Tryd.func44, Tryd.ntmps44
              go_wp2_with fail
              go_ret
              exact fw_post HF.out
        · skip
          by_cases c0 : (s[0].toNat : Int) < 49
          · skip
            have hf : fwT s = 0 := by rw [HM.out, e3, e2, e1, e0]; unfold fwS; rw [if_pos (by omega)]
            have HF := Lib.hid hf
            clear hf HM e3 e2 e1 e0
            go_enter Tryd.func44, Tryd.ntmps44
            go_wp2_with fail
            go_ret
            exact fw_post HF.out
          · by_cases d0 : 52 < (s[0].toNat : Int)
            · skip
              have hf : fwT s = 0 := by rw [HM.out, e3, e2, e1, e0]; unfold fwS; rw [if_pos (by omega)]
              have HF := Lib.hid hf
              clear hf HM e3 e2 e1 e0
              go_enter Tryd.func44, Tryd.ntmps44
              go_wp2_with fail
              go_ret
              exact fw_post HF.out
            · skip
              have hf : fwT s = 1 := by rw [HM.out, e3, e2, e1, e0]; unfold fwS; rw [if_neg (by omega), if_pos (by omega)]
              have HF := Lib.hid hf
              clear hf HM e3 e2 e1 e0
              go_enter Tryd.func44, Tryd.ntmps44
              go_wp2_with fail
              go_ret
              exact fw_post HF.out
      · skip
        by_cases c1 : (s[1].toNat : Int) = 46
        · skip
          by_cases c0 : (s[0].toNat : Int) < 49
          · skip
            have hf : fwT s = 0 := by rw [HM.out, e3, e2, e1, e0]; unfold fwS; rw [if_pos (by omega)]
            have HF := Lib.hid hf
            clear hf HM e3 e2 e1 e0
            go_enter Tryd.func44, Tryd.ntmps44
            go_wp2_with fail
            go_ret
            exact fw_post HF.out
          · by_cases d0 : 52 < (s[0].toNat : Int)
            · skip
              have hf : fwT s = 0 := by rw [HM.out, e3, e2, e1, e0]; unfold fwS; rw [if_pos (by omega)]
              have HF := Lib.hid hf
              clear hf HM e3 e2 e1 e0
              go_enter Tryd.func44, Tryd.ntmps44
              go_wp2_with fail
              go_ret
              exact fw_post HF.out
            · skip
              have hf : fwT s = 3 := by rw [HM.out, e3, e2, e1, e0]; unfold fwS; rw [if_neg (by omega), if_neg (by omega), if_neg (by omega), if_pos (by omega)]
              have HF := Lib.hid hf
              clear hf HM e3 e2 e1 e0
              go_enter Tryd.func44, Tryd.ntmps44
              go_wp2_with fail
              go_ret
              exact fw_post HF.out
        · skip
          by_cases c0 : (s[0].toNat : Int) < 49
          · skip
            have hf : fwT s = 0 := by rw [HM.out, e3, e2, e1, e0]; unfold fwS; rw [if_pos (by omega)]
            have HF := Lib.hid hf
            clear hf HM e3 e2 e1 e0
            go_enter Tryd.func44, Tryd.ntmps44
            go_wp2_with fail
            go_ret
            exact fw_post HF.out
          · by_cases d0 : 52 < (s[0].toNat : Int)
            · skip
              have hf : fwT s = 0 := by rw [HM.out, e3, e2, e1, e0]; unfold fwS; rw [if_pos (by omega)]
              have HF := Lib.hid hf
              clear hf HM e3 e2 e1 e0
              go_enter Tryd.func44, Tryd.ntmps44
              go_wp2_with fail
              go_ret
              exact fw_post HF.out
            · skip
              have hf : fwT s = 1 := by rw [HM.out, e3, e2, e1, e0]; unfold fwS; rw [if_neg (by omega), if_pos (by omega)]
              have HF := Lib.hid hf
              clear hf HM e3 e2 e1 e0
              go_enter Tryd.func44, Tryd.ntmps44
              go_wp2_with fail
              go_ret
              exact fw_post HF.out
theorem first_wrong (s : ByteArray) (w : World) (hs : s.size ≤ 9223372036854775807) : Calls Tryd.prog 44 #[.string s] w (FwPost w s) := by
  rcases (by omega : s.size = 0 ∨ s.size = 1 ∨ s.size = 2 ∨ s.size = 3 ∨ 4 ≤ s.size) with h | h | h | h | h
  · exact fw_0 s w h
  · exact fw_1 s w h
  · exact fw_2 s w h
  · exact fw_3 s w h
  · exact fw_4 s w hs h
end Go.Proofs.YtienaogmljlmlaaDoor
end
section
namespace Go.Proofs.YtienaogmljlmlaaDoor
open Go.RowKit Go.Extern.Stop Go.Stop Go.Extern WordM RuleM NatM

theorem Rul3.put {w : World} {h : Nat} {a b c : Value} (k : Rul3 w h a b c) (a' b' c' : Value) : Rul3 (put3 w h a' b' c') h a' b' c' := by
  have set : ∀ {w : World} {cs : Array Value} {T : TypeId} (i : Nat) (v : Value), w.heap[h]? = some (.cells cs T (0, 0)) → (w.setCell ⟨h, i, none⟩ v).heap[h]? = some (.cells (cs.setIfInBounds i v) T (0, 0)) := fun {w cs T} i v hh => by
    show (w.heap.modify h _)[h]? = _
    rw [Array.getElem?_modify, if_pos rfl, hh]; rfl
  exact ⟨set 2 c' (set 1 b' (set 0 a' k.heap))⟩
theorem fwT_four {s : ByteArray} (h : fwT s = 4) : 4 ≤ s.size ∧ (49 ≤ byteS s 0 ∧ byteS s 0 ≤ 52) ∧ byteS s 1 = 46 ∧ (48 ≤ byteS s 2 ∧ byteS s 2 ≤ 51) ∧ byteS s 3 = 46 := by
  unfold fwT fwS at h
  split at h
  · omega
  · split at h
    · omega
    · split at h
      · omega
      · split at h
        · omega
        · omega
/-- what a rule's text says of symbols and radius, and the rest -/
def symK (s : ByteArray) : Nat := byteS s 0 - 48
def symR (s : ByteArray) : Nat := byteS s 2 - 48
def restS (s : ByteArray) : ByteArray := s.extract 4 s.size
theorem sym_range {s : ByteArray} (h : fwT s = 4) : 1 ≤ symK s ∧ symK s ≤ 4 ∧ symR s ≤ 3 := by
  have := fwT_four h
  unfold symK symR
  omega

set_option maxRecDepth 100000 in
set_option maxHeartbeats 4000000 in
theorem rparse_ok (s : ByteArray) (w : World) (hs : s.size ≤ 8192) (hf : fwT s = 4) (hsz : symK s ^ (2 * symR s + 1) ≤ 256) (hp : parseBad (bsOf (restS s)) = none) (hlt : numOf (bsOf (restS s)) < symK s ^ (symK s ^ (2 * symR s + 1))) :
    Calls Tryd.prog 23 #[.string s] w (FromOk w (symK s) (symR s) (numOf (bsOf (restS s)))) := by
  obtain ⟨h1, h4, h3⟩ := sym_range hf
  obtain ⟨h4s, ⟨hb0, hb0'⟩, _, ⟨hb2, hb2'⟩, _⟩ := fwT_four hf
  have e0 := byteS_get (s := s) (i := 0) (by omega)
  have e2 := byteS_get (s := s) (i := 2) (by omega)
  obtain ⟨K, hK⟩ : ∃ K, symK s = K := ⟨_, rfl⟩
  obtain ⟨R, hR⟩ : ∃ R, symR s = R := ⟨_, rfl⟩
  obtain ⟨N, hN⟩ : ∃ N, numOf (bsOf (restS s)) = N := ⟨_, rfl⟩
  have hfw := first_wrong s
  unfold FwPost at hfw
  rw [hf] at hfw
  have hnp := fun W => parse_num (restS s) W hp
  unfold restS at hnp
  unfold restS at hN
  rw [hK, hR] at hsz hlt ⊢
  unfold restS at hlt ⊢
  rw [hN] at hlt ⊢
  simp only [hN] at hnp
  rw [hK] at h1 h4
  rw [hR] at h3
  have wk : IntKind.u8.wrap ((s[0].toNat : Int) - 48) = (K : Int) := by
    rw [IntKind.wrap_u8]; unfold symK at hK; omega
  have wr : IntKind.u8.wrap ((s[2].toNat : Int) - 48) = (R : Int) := by
    rw [IntKind.wrap_u8]; unfold symR at hR; omega
  have hNl : (D32 N).length ≤ 100000 := by
    have ha : K ^ (K ^ (2 * R + 1)) ≤ 4 ^ 256 := Nat.le_trans (Nat.pow_le_pow_left h4 _) (Nat.pow_le_pow_right (by omega) hsz)
    have := D32_len (n := N) (k := 100) (Nat.lt_of_lt_of_le hlt (Nat.le_trans ha (by decide +kernel)))
    omega
  have hsml := fun W => small_size_ok K R W h1 h4 h3 hsz
  have hfrom := fun W p c hW => from_ok K R p (D32 N).length c (D32 N) W rfl hW hNl h1 h4 h3 hsz (by rw [V32_D32]; exact hlt)
  simp only [V32_D32] at hfrom
  obtain ⟨S, hS⟩ : ∃ S, K ^ (2 * R + 1) = S := ⟨_, rfl⟩
  simp only [hS] at hsml
  have H := Lib.hid (And.intro hfw (And.intro hsml (And.intro hnp hfrom)))
  clear hS
  clear hfw hsml hnp hfrom hK hR hN hf hp hlt hsz e0 e2 hb0 hb0' hb2 hb2' hNl
  have l0 : 0 < s.size := by omega
  have l2 : 2 < s.size := by omega
  have i0 : (0 : Int) < (s.size : Int) := by omega
  have i2 : (2 : Int) < (s.size : Int) := by omega
  go_enter Tryd.func23, Tryd.ntmps23
  go_wp2_with fail
  obtain ⟨w0, hw0⟩ : ∃ w0, w0 = w.alloc (.cells #[.int .i64 0, .int .i64 0, .slice none 0 0] 24) := ⟨_, rfl⟩
  have hb0 : Below w.heap.size w w0 := by rw [hw0]; exact (Below.refl _ _).alloc (Nat.le_refl _) _
  have hE0 : Rul3 w0 w.heap.size (.int .i64 0) (.int .i64 0) (.slice none 0 0) := by rw [hw0]; exact Rul3.new w _ _ _
  rw [← hw0]
  have HE := Lib.hid (And.intro hE0 hb0)
  clear hw0 hE0 hb0
  go_wp2_with fail
  refine (H.out.1 w0 (by omega)).mono ?_
  rintro e w1 ⟨rfl, rfl⟩
  go_wp2_with fail
  go_region
  go_wp2_with fail
  have hb01 : Below w.heap.size w w0.drew := HE.out.2.drew
  have hE01 : Rul3 w0.drew w.heap.size (.int .i64 0) (.int .i64 0) (.slice none 0 0) := HE.out.1.next (Below.refl _ _).drew
  have H1 := Lib.hid (And.intro hE01 hb01)
  clear hb01 hE01
  refine (H.out.2.1 _).mono ?_
  rintro e w1 ⟨rfl, rfl⟩
  go_wp2_with fail
  refine (H.out.2.2.1 _).mono ?_
  rintro e w2 ⟨p2, c2, rfl, ho2, hb2⟩
  have H2 := Lib.hid (And.intro (H1.out.1.next hb2) (And.intro (H1.out.2.trans (hb2.mono H1.out.2.size)) ho2))
  clear ho2 hb2
  go_wp2_with fail
  refine (H.out.2.2.2 w2 p2 c2 H2.out.2.2.toV).mono ?_
  rintro e w3 ⟨t, hok, hcd, p3, c3, rfl, ho3, hb3⟩
  have hsz3 := hb3.size
  have hlt2 := H2.out.1.lt
  obtain ⟨n, hn⟩ : ∃ n, t.length = n := ⟨_, rfl⟩
  rw [hn]
  have H3 := Lib.hid (And.intro (H2.out.1.next hb3) (And.intro (H2.out.2.1.trans (hb3.mono H2.out.2.1.size)) (And.intro ho3 (And.intro hok (And.intro hcd hn)))))
  clear ho3 hb3 hok hcd hn
  go_upto_region 14 with fail
  obtain ⟨w4, hw4⟩ : ∃ w4, w4 = w3.alloc (.cells #[.int .i64 (K : Int), .int .i64 (R : Int), .slice p3 n c3] 24) := ⟨_, rfl⟩
  have hb4 : Below w3.heap.size w3 w4 := by rw [hw4]; exact (Below.refl _ _).alloc (Nat.le_refl _) _
  have hE4 : Rul3 w4 w3.heap.size (.int .i64 (K : Int)) (.int .i64 (R : Int)) (.slice p3 n c3) := by rw [hw4]; exact Rul3.new w3 _ _ _
  have hE4' := H3.out.1.next hb4
  rw [← hw4]
  obtain ⟨⟨hf0, hf1, hf2⟩, hc0, hc1, hc2⟩ := hE4.facts
  obtain ⟨⟨hg0, hg1, hg2⟩, hd0, hd1, hd2⟩ := hE4'.facts
  have H4 := Lib.hid (And.intro (H3.out.2.2.1.next hb4) (H3.out.2.1.trans (hb4.mono H3.out.2.1.size)))
  have hne : w3.heap.size ≠ w.heap.size := by omega
  clear hw4 hb4 hE4 hE4'
  go_wp2_with fail
  refine bodyPost_ret (v := .tuple #[.agg #[.int .i64 (K : Int), .int .i64 (R : Int), .slice p3 n c3], .nilIface]) (by simp [results, Tryd.results23, go_sem, hd0, hd1, hd2]) rfl ⟨t, H3.out.2.2.2.1, H3.out.2.2.2.2.1, p3, c3, by rw [H3.out.2.2.2.2.2], ?_, ?_⟩
  · exact (H4.out.1.put3 hlt2 _ _ _).base (Nat.le_of_lt hlt2)
  · exact put3_below H4.out.2 (Nat.le_refl _) _ _ _

/-- refused by nat.Parse: rule's Fault over nat's -/
def ErrU (w : World) (A : Nat → Addr) (i m : Nat) (e : Ending) (w' : World) : Prop :=
  ∃ b b', e = .returned (.tuple #[noRule, .iface 79 (.pointer (some ⟨b, 0, none⟩))]) ∧ (Tree.fault b ruleOp 4 (.fault b' natOp i (.leaf (A m)))).lies w' ∧ Below w.heap.size w w'
end Go.Proofs.YtienaogmljlmlaaDoor
end
section
namespace Go.Proofs.YtienaogmljlmlaaDoor
open Go.RowKit

/-- a lent list: its block holds it, and the two marks behind -/
def LentI (w : World) (g : Nat) (l : List Int) : Prop := w.heap[g]? = some (.cells (cI (l ++ [7001, 7002])).toArray 3 (0, 0))
theorem LentI.lt {w : World} {g : Nat} {l : List Int} (h : LentI w g l) : g < w.heap.size := heap_ltN h
theorem LentI.cell {w : World} {g : Nat} {l : List Int} (h : LentI w g l) {j : Nat} {x : Int} (hx : (l ++ [7001, 7002])[j]? = some x) : w.cell? ⟨g, j, none⟩ = some (.int .i64 x) := by
  rw [cell_of_row w g j _ _ _ h, List.getElem?_toArray]
  exact cI_get hx
theorem LentI.block {w w' : World} {g : Nat} {l : List Int} (hb : w'.heap[g]? = w.heap[g]?) (h : LentI w g l) : LentI w' g l := hb.trans h
theorem LentI.below {w w' : World} {g : Nat} {l : List Int} (hb : Below w.heap.size w w') (h : LentI w g l) : LentI w' g l := h.block (hb.block g h.lt)
theorem LentI.own {w : World} {g base : Nat} {l : List Int} (hB : base ≤ g) (hl : l.length ≤ 17592186043904) (h : LentI w g l) : IntO base w (some ⟨g, 0, none⟩) (l.length + 2) l := by
  refine ⟨by rw [cI_length, Nat.mul_one], Or.inr ⟨g, l.length + 2, _, rfl, hB, h, by omega, by unfold maxLen; omega, by simp [cI], ?_⟩⟩
  rw [List.toList_toArray, Nat.mul_one]
  unfold cI
  rw [List.map_append, List.take_left' (by simp)]
theorem LentI.of_own {w : World} {g base : Nat} {l : List Int} (h : IntO base w (some ⟨g, 0, none⟩) l.length l) (hfull : ∃ m, l = m ++ [7001, 7002]) : ∃ m, l = m ++ [7001, 7002] ∧ LentI w g m := by
  obtain ⟨m, rfl⟩ := hfull
  refine ⟨m, rfl, ?_⟩
  obtain ⟨hx, h1 | ⟨g', cap, cur, hv, hg, hh, hc, hm, hs, ht⟩⟩ := h
  · simp at h1
  · obtain ⟨rfl, rfl⟩ : g = g' ∧ (m ++ [7001, 7002]).length = cap := by simpa using hv
    unfold LentI
    rw [hh]
    congr 2
    rw [← Array.toList_inj, List.toList_toArray, ← ht, Nat.mul_one, List.take_of_length_le (by rw [Array.length_toList]; omega)]

def LentPostI (w : World) (l : List Int) (e : Ending) (w' : World) : Prop :=
  e = .returned (.slice (some ⟨w.heap.size, 0, none⟩) l.length (l.length + 2)) ∧ LentI w' w.heap.size l ∧ Below w.heap.size w w'
theorem splice_zeroI (cs : List Value) (n : Nat) (v : Value) : splice (List.replicate n v) 0 cs = cs ++ List.replicate (n - cs.length) v := by
  unfold splice
  simp

set_option maxRecDepth 100000 in
set_option maxHeartbeats 1000000 in
theorem lentI_any (p : Option Addr) (cap : Nat) (l : List Int) (w : World) (h : IntV w.heap.size w p cap l) (hl : l.length ≤ 17592186043904) :
    Calls Tryd.prog 41 #[.slice p l.length cap] w (LentPostI w l) := by
  obtain ⟨n, hn⟩ : ∃ n, n = l.length + 2 := ⟨_, rfl⟩
  have hmk := makeI n (by omega)
  have hn2 : (l.length : Int) + 2 = (n : Int) := by omega
  have H := Lib.hid (And.intro h hn)
  have hln : l.length < n := by omega
  have hln1 : l.length + 1 < n := by omega
  have hnb : n ≤ 17592186043906 := by omega
  clear h hn
  go_enter Tryd.func41, Tryd.ntmps41
  have hB1 : Below w.heap.size w (w.alloc (.cells (madeCells #[.int .i64 0] n) 3)) := (Below.refl _ _).alloc (Nat.le_refl _) _
  have HB1 := Lib.hid hB1
  have hh : (w.alloc (.cells (madeCells #[.int .i64 0] n) 3)).heap[w.heap.size]? = some (.cells (List.replicate n (Value.int .i64 0)).toArray 3 (0, 0)) := by
    rw [heap_newN, ← madeI_list]
  have HHH := Lib.hid hh
  clear hB1 hh
  go_wp2_with (with_reducible refine wpList_copy_splice rfl (.tmp 8) (.tmp 9) 22 22 rfl 3 Tryd.underlying22 sizeI (some ⟨w.heap.size, 0, none⟩) p n n l.length cap rfl rfl w.heap.size 0 (List.replicate n (Value.int .i64 0)) 3 HHH.out (cI l) ?k1 ?k2 ?k3 ?k4 w.heap.size w HB1.out (Nat.le_refl _) ?_)
  case k1 => rw [cI_length]; exact (Nat.min_eq_left (by omega)).symm
  case k2 =>
    intro hpos
    rw [cI_length] at hpos
    obtain ⟨b, off, rfl, hb, hc⟩ := H.out.1.cell (List.length_pos_iff.1 hpos)
    refine ⟨_, rfl, fun j v hv => ?_⟩
    rw [add_off]
    unfold cI at hv
    rw [List.getElem?_map] at hv
    obtain ⟨x, hx, rfl⟩ := Option.map_eq_some_iff.1 hv
    exact (HB1.out.cell (p := ⟨b, off + j, none⟩) hb).trans (hc j x hx)
  case k3 => rw [cI_length, List.length_replicate]; omega
  case k4 =>
    intro v hv
    unfold cI at hv
    obtain ⟨x, _, rfl⟩ := List.mem_map.1 hv
    rfl
  intro w1 hw1 hb1
  have hn0 : n = l.length + 2 := H.out.2
  have hw2 : w1.heap[w.heap.size]? = some (.cells (cI l ++ [Value.int .i64 0, Value.int .i64 0]).toArray 3 (0, 0)) := by
    have h := hw1.out
    rw [splice_zeroI, cI_length, show n - l.length = 2 by omega] at h
    exact h
  have hc1 : w1.cell? ⟨w.heap.size, l.length, none⟩ = some (.int .i64 0) := by
    rw [cell_of_row w1 _ _ _ _ _ hw2, List.getElem?_toArray, List.getElem?_append_right (by rw [cI_length]; exact Nat.le_refl _), cI_length, Nat.sub_self]
    rfl
  have hc2 : w1.cell? ⟨w.heap.size, l.length + 1, none⟩ = some (.int .i64 0) := by
    rw [cell_of_row w1 _ _ _ _ _ hw2, List.getElem?_toArray, List.getElem?_append_right (by rw [cI_length]; omega), cI_length, show l.length + 1 - l.length = 1 by omega]
    rfl
  have hf1 : ∀ j, w1.frozen? ⟨w.heap.size, j, none⟩ = false := fun j => frozen_of_row w1 w.heap.size j _ _ hw2
  have hff1 := hf1 l.length
  have hff2 := hf1 (l.length + 1)
  have hnn : n ≤ l.length + 2 := by omega
  have hB2 : Below w.heap.size w ((w1.setCell ⟨w.heap.size, l.length, none⟩ (.int .i64 7001)).setCell ⟨w.heap.size, l.length + 1, none⟩ (.int .i64 7002)) := (hb1.setCell (p := ⟨w.heap.size, l.length, none⟩) (Nat.le_refl _) _).setCell (p := ⟨w.heap.size, l.length + 1, none⟩) (Nat.le_refl _) _
  have hL : LentI ((w1.setCell ⟨w.heap.size, l.length, none⟩ (.int .i64 7001)).setCell ⟨w.heap.size, l.length + 1, none⟩ (.int .i64 7002)) w.heap.size l := by
    unfold LentI
    rw [heap_setCell_same _ w.heap.size (l.length + 1) _ _ _ (heap_setCell_same w1 w.heap.size l.length _ _ _ hw2)]
    congr 2
    rw [← Array.toList_inj]
    simp only [Array.toList_setIfInBounds]
    rw [List.set_append_right _ _ (by rw [cI_length]; exact Nat.le_refl _), List.set_append_right _ _ (by rw [cI_length]; omega), cI_length, Nat.sub_self, show l.length + 1 - l.length = 1 by omega]
    simp [cI]
  have HF := Lib.hid (And.intro hL hB2)
  clear hw1 hb1 hw2 hf1 hn0 hL hB2 hmk HB1 HHH
  go_wp2_with fail
  go_ret
  exact ⟨by rw [H.out.2]; rfl, HF.out.1, HF.out.2⟩
set_option maxRecDepth 100000 in
set_option maxHeartbeats 1000000 in
theorem keptI_any (g : Nat) (p : Option Addr) (n m c : Nat) (l : List Int) (w : World) (hg : LentI w g l) (h : IntV w.heap.size w p c l) (hl : l.length ≤ 17592186043904) (hn : n = l.length) (hm : m = l.length + 2) :
    Calls Tryd.prog 43 #[.slice (some ⟨g, 0, none⟩) n m, .slice p l.length c] w (Tells (.bool true) w) := by
  subst hn hm
  have hcap := h.cap
  unfold maxLen at hcap
  have hle := h.le
  have hsame := ints_any (some ⟨g, 0, none⟩) p l.length l.length (l.length + 2) c l l w rfl rfl ((LentI.own (base := 0) (Nat.zero_le _) (by omega) hg).toV) h
  rw [sameI_self] at hsame
  have HG := Lib.hid hg
  clear hg h
  go_enter Tryd.func43, Tryd.ntmps43
  go_wp2_with fail
  refine hsame.mono ?_
  clear hsame
  rintro e w1 ⟨rfl, hb1⟩
  have hc1 : w1.cell? ⟨g, l.length, none⟩ = some (.int .i64 7001) := (HG.out.below hb1).cell (by simp)
  have hc2 : w1.cell? ⟨g, l.length + 1, none⟩ = some (.int .i64 7002) := (HG.out.below hb1).cell (by rw [List.getElem?_append_right (by omega), show l.length + 1 - l.length = 1 by omega]; rfl)
  have HB := Lib.hid hb1
  clear hb1
  go_wp2_with fail
  go_ret
  exact ⟨rfl, HB.out⟩

end Go.Proofs.YtienaogmljlmlaaDoor
end
section
namespace Go.Proofs.YtienaogmljlmlaaDoor
open Go.ChangeShapes Go.WideShapes Go.ChangeAt Go.RowKit

theorem own : ownKnob Tryd.prog.godebug = none := by kernel_rfl
theorem star : "*" ++ "errors.errorString" = "*errors.errorString" := by decide
theorem row94 (u : TypeId) (h : Tryd.prog.typeName? 3 u = some "*errors.errorString") : u = 118 :=
  typeName_ptr_named (nm := "errors.errorString") (by rw [star]; kernel_rfl) (by kernel_rfl) (by decide) u (by rw [star]; exact h)
theorem cells96 : Tryd.prog.cellsOf 135 = 1 := by kernel_rfl
theorem cells9 : Tryd.prog.cellsOf 9 = 1 := by kernel_rfl

set_option maxRecDepth 100000 in
/-- The sentinels of a list: each variable points to a string's cell of its own. -/
theorem sents {W : World} : ∀ (l : List (String × DataW Unit)) (ps : List MemPlace), DataW.LaidVars Tryd.prog W l ps →
    (∀ x ∈ l, ∃ text, x.2 = .iface "*errors.errorString" (.ptr (.agg [.lit (.string text)]))) → (∀ x ∈ l, ∀ g, Tryd.prog.globalNamed x.1 = some g → (Tryd.prog.globals[g]?).map (·.type) = some 29) →
    (∀ b off, MemPlace.cell b off ∈ ps → (∃ c t, W.heap[b]? = some (.cells c t (0, 0))) ∧ ∀ u v, W.cell? ⟨b, off, none⟩ = some (.iface u v) → Value.okWide Tryd.prog W .any 0 u v) →
    ∃ ads : List Addr, ads.length = l.length ∧ (∀ i, i < l.length → ∃ n d a, l[i]? = some (n, d) ∧ ads[i]? = some a ∧ W.var? Tryd.prog n = some #[.iface 118 (.pointer (some a))]) ∧
      (∀ a ∈ ads, (∃ c t, W.heap[a.block]? = some (.cells c t (0, 0))) ∧ MemPlace.cell a.block a.off ∈ ps) ∧ (ps.Nodup → ads.Nodup)
  | [], _, _, _, _, _ => ⟨[], rfl, fun i h => absurd h (by simp), fun a h => absurd h (by simp), fun _ => List.nodup_nil⟩
  | (n, d) :: r, ps, h, hf, hg, hrows => by
    obtain ⟨g, t, cs, f0, p0, q0, hg0, ht0, hv0, hd0, hr, rfl⟩ := h
    obtain ⟨text, hx⟩ := hf (n, d) (List.mem_cons_self ..)
    simp only at hx
    subst hx
    have ht := hg _ (List.mem_cons_self ..) g hg0
    obtain rfl := Option.some.inj (ht.symm.trans ht0)
    obtain ⟨l0⟩ := cs
    have ok0 : ∀ u v, l0 = [.iface u v] → Value.okWide Tryd.prog W .any 0 u v := fun u v e => by
      subst e
      exact (hrows g 0 (by simp [MemPlace.row])).2 u v (by simpa using World.var?_cell hg0 hv0 0)
    obtain ⟨a, s, rfl, hc, hs, hz, rfl⟩ := errorString_of_trod Tryd.underlying29 row94 Tryd.underlying118 Tryd.underlying135 rfl rfl Tryd.underlying9 cells96 cells9 hd0 ok0
    obtain ⟨ads, h1, h2, h3, h4⟩ := sents r q0 hr (fun x hx => hf x (List.mem_cons_of_mem _ hx)) (fun x hx => hg x (List.mem_cons_of_mem _ hx)) (fun b off hm => hrows b off (List.mem_append_right _ hm))
    refine ⟨a :: ads, by simp [h1], ?_, ?_, ?_⟩
    · intro i hi
      cases i with
      | zero => exact ⟨n, _, a, rfl, rfl, hv0⟩
      | succ i => exact h2 i (by simpa using hi)
    · intro b hb
      rcases List.mem_cons.1 hb with rfl | hb
      · exact ⟨(hrows b.block b.off (by simp [MemPlace.row])).1, by simp [MemPlace.row]⟩
      · exact ⟨(h3 b hb).1, List.mem_append_right _ (h3 b hb).2⟩
    · intro hn
      have hq : q0.Nodup := (List.nodup_append.1 hn).2.1
      refine List.nodup_cons.2 ⟨fun hm => ?_, h4 hq⟩
      have hd := (List.nodup_append.1 hn).2.2 (MemPlace.cell a.block a.off) (by simp [MemPlace.row]) _ (h3 a hm).2
      exact hd rfl

/-- The list of the twelve, ads every row has it behind the handle. -/
def twelve : List (String × DataW Unit) := [("eden/api.BadRule", Rows.laid_eden_api_BadRule), ("eden/api.BadWord", Rows.laid_eden_api_BadWord), ("eden/api.BadArg", Rows.laid_eden_api_BadArg), ("eden/api.TooBig", Rows.laid_eden_api_TooBig), ("eden/api.NoBudget", Rows.laid_eden_api_NoBudget), ("eden/api.BadText", Rows.laid_eden_api_BadText), ("eden/api.BadPatch", Rows.laid_eden_api_BadPatch), ("eden/api.BadCert", Rows.laid_eden_api_BadCert), ("eden/api.NoInverse", Rows.laid_eden_api_NoInverse), ("eden/api.BadLine", Rows.laid_eden_api_BadLine), ("eden/api.BadState", Rows.laid_eden_api_BadState), ("eden/api.Unknown", Rows.laid_eden_api_Unknown)]
theorem twelve_form : ∀ x ∈ twelve, ∃ text, x.2 = .iface "*errors.errorString" (.ptr (.agg [.lit (.string text)])) := by
  intro x hx
  simp only [twelve, List.mem_cons, List.not_mem_nil, or_false] at hx
  rcases hx with rfl | rfl | rfl | rfl | rfl | rfl | rfl | rfl | rfl | rfl | rfl | rfl <;> exact ⟨_, rfl⟩
theorem gBadRule : Tryd.prog.globalNamed "eden/api.BadRule" = some 0 := by kernel_rfl
theorem gtBadRule : (Tryd.prog.globals[0]?).map (·.type) = some 29 := by kernel_rfl
theorem gBadWord : Tryd.prog.globalNamed "eden/api.BadWord" = some 1 := by kernel_rfl
theorem gtBadWord : (Tryd.prog.globals[1]?).map (·.type) = some 29 := by kernel_rfl
theorem gBadArg : Tryd.prog.globalNamed "eden/api.BadArg" = some 2 := by kernel_rfl
theorem gtBadArg : (Tryd.prog.globals[2]?).map (·.type) = some 29 := by kernel_rfl
theorem gTooBig : Tryd.prog.globalNamed "eden/api.TooBig" = some 3 := by kernel_rfl
theorem gtTooBig : (Tryd.prog.globals[3]?).map (·.type) = some 29 := by kernel_rfl
theorem gNoBudget : Tryd.prog.globalNamed "eden/api.NoBudget" = some 4 := by kernel_rfl
theorem gtNoBudget : (Tryd.prog.globals[4]?).map (·.type) = some 29 := by kernel_rfl
theorem gBadText : Tryd.prog.globalNamed "eden/api.BadText" = some 5 := by kernel_rfl
theorem gtBadText : (Tryd.prog.globals[5]?).map (·.type) = some 29 := by kernel_rfl
theorem gBadPatch : Tryd.prog.globalNamed "eden/api.BadPatch" = some 6 := by kernel_rfl
theorem gtBadPatch : (Tryd.prog.globals[6]?).map (·.type) = some 29 := by kernel_rfl
theorem gBadCert : Tryd.prog.globalNamed "eden/api.BadCert" = some 7 := by kernel_rfl
theorem gtBadCert : (Tryd.prog.globals[7]?).map (·.type) = some 29 := by kernel_rfl
theorem gNoInverse : Tryd.prog.globalNamed "eden/api.NoInverse" = some 8 := by kernel_rfl
theorem gtNoInverse : (Tryd.prog.globals[8]?).map (·.type) = some 29 := by kernel_rfl
theorem gBadLine : Tryd.prog.globalNamed "eden/api.BadLine" = some 9 := by kernel_rfl
theorem gtBadLine : (Tryd.prog.globals[9]?).map (·.type) = some 29 := by kernel_rfl
theorem gBadState : Tryd.prog.globalNamed "eden/api.BadState" = some 10 := by kernel_rfl
theorem gtBadState : (Tryd.prog.globals[10]?).map (·.type) = some 29 := by kernel_rfl
theorem gUnknown : Tryd.prog.globalNamed "eden/api.Unknown" = some 11 := by kernel_rfl
theorem gtUnknown : (Tryd.prog.globals[11]?).map (·.type) = some 29 := by kernel_rfl
theorem twelve_types : ∀ x ∈ twelve, ∀ g, Tryd.prog.globalNamed x.1 = some g → (Tryd.prog.globals[g]?).map (·.type) = some 29 := by
  intro x hx g hg
  simp only [twelve, List.mem_cons, List.not_mem_nil, or_false] at hx
  rcases hx with rfl | rfl | rfl | rfl | rfl | rfl | rfl | rfl | rfl | rfl | rfl | rfl
  · obtain rfl := Option.some.inj (gBadRule.symm.trans hg); exact gtBadRule
  · obtain rfl := Option.some.inj (gBadWord.symm.trans hg); exact gtBadWord
  · obtain rfl := Option.some.inj (gBadArg.symm.trans hg); exact gtBadArg
  · obtain rfl := Option.some.inj (gTooBig.symm.trans hg); exact gtTooBig
  · obtain rfl := Option.some.inj (gNoBudget.symm.trans hg); exact gtNoBudget
  · obtain rfl := Option.some.inj (gBadText.symm.trans hg); exact gtBadText
  · obtain rfl := Option.some.inj (gBadPatch.symm.trans hg); exact gtBadPatch
  · obtain rfl := Option.some.inj (gBadCert.symm.trans hg); exact gtBadCert
  · obtain rfl := Option.some.inj (gNoInverse.symm.trans hg); exact gtNoInverse
  · obtain rfl := Option.some.inj (gBadLine.symm.trans hg); exact gtBadLine
  · obtain rfl := Option.some.inj (gBadState.symm.trans hg); exact gtBadState
  · obtain rfl := Option.some.inj (gUnknown.symm.trans hg); exact gtUnknown

theorem nodup_inj {α : Type} {l : List α} (h : l.Nodup) {i j : Nat} (hi : i < l.length) (hj : j < l.length) (e : l[i] = l[j]) : i = j := by
  have hp := List.pairwise_iff_getElem.1 h
  rcases Nat.lt_trichotomy i j with k | k | k
  · exact absurd e (hp i j hi hj k)
  · exact k
  · exact absurd e.symm (hp j i hj hi k)

/-- Which of the list is which error. -/
def slotOf (k : Nat) : Nat := (k + 11) % 12
theorem slotOf_inj (j k : Nat) (hj : j ≤ 11) (hk : k ≤ 11) (h : slotOf j = slotOf k) : j = k := by unfold slotOf at h; omega

theorem roots_of_twelve {W : World} (h : laidMet Tryd.prog twelve W) : ∃ A, Roots W A := by
  obtain ⟨ps, hv, hn, hrows⟩ := h
  obtain ⟨ads, h1, h2, h3, h4⟩ := sents twelve ps hv twelve_form twelve_types hrows
  have hlen : ads.length = 12 := h1
  have hnd := h4 hn
  refine ⟨fun k => ads.getD (slotOf k) ⟨0, 0, none⟩, ?_, ?_, ?_⟩
  · intro k hk
    have hs : slotOf k < 12 := Nat.mod_lt _ (by decide)
    obtain ⟨n, d, a, e1, e2, e3⟩ := h2 (slotOf k) hs
    have ea : ads.getD (slotOf k) ⟨0, 0, none⟩ = a := by rw [List.getD_eq_getElem?_getD, e2]; rfl
    show W.cell? ⟨rootVar k, 0, none⟩ = some (.iface 118 (.pointer (some (ads.getD (slotOf k) ⟨0, 0, none⟩))))
    rw [ea]
    clear ea e2
    match k, hk with
    | 0, _ => obtain ⟨rfl, rfl⟩ := Prod.mk.inj (Option.some.inj e1); simpa [rootVar] using World.var?_cell gUnknown e3 0
    | 1, _ => obtain ⟨rfl, rfl⟩ := Prod.mk.inj (Option.some.inj e1); simpa [rootVar] using World.var?_cell gBadRule e3 0
    | 2, _ => obtain ⟨rfl, rfl⟩ := Prod.mk.inj (Option.some.inj e1); simpa [rootVar] using World.var?_cell gBadWord e3 0
    | 3, _ => obtain ⟨rfl, rfl⟩ := Prod.mk.inj (Option.some.inj e1); simpa [rootVar] using World.var?_cell gBadArg e3 0
    | 4, _ => obtain ⟨rfl, rfl⟩ := Prod.mk.inj (Option.some.inj e1); simpa [rootVar] using World.var?_cell gTooBig e3 0
    | 5, _ => obtain ⟨rfl, rfl⟩ := Prod.mk.inj (Option.some.inj e1); simpa [rootVar] using World.var?_cell gNoBudget e3 0
    | 6, _ => obtain ⟨rfl, rfl⟩ := Prod.mk.inj (Option.some.inj e1); simpa [rootVar] using World.var?_cell gBadText e3 0
    | 7, _ => obtain ⟨rfl, rfl⟩ := Prod.mk.inj (Option.some.inj e1); simpa [rootVar] using World.var?_cell gBadPatch e3 0
    | 8, _ => obtain ⟨rfl, rfl⟩ := Prod.mk.inj (Option.some.inj e1); simpa [rootVar] using World.var?_cell gBadCert e3 0
    | 9, _ => obtain ⟨rfl, rfl⟩ := Prod.mk.inj (Option.some.inj e1); simpa [rootVar] using World.var?_cell gNoInverse e3 0
    | 10, _ => obtain ⟨rfl, rfl⟩ := Prod.mk.inj (Option.some.inj e1); simpa [rootVar] using World.var?_cell gBadLine e3 0
    | 11, _ => obtain ⟨rfl, rfl⟩ := Prod.mk.inj (Option.some.inj e1); simpa [rootVar] using World.var?_cell gBadState e3 0
  · intro k hk
    have hs : slotOf k < ads.length := by rw [hlen]; exact Nat.mod_lt _ (by decide)
    have ea : ads.getD (slotOf k) ⟨0, 0, none⟩ = ads[slotOf k] := by rw [List.getD_eq_getElem?_getD, List.getElem?_eq_getElem hs]; rfl
    show Target W (ads.getD (slotOf k) ⟨0, 0, none⟩)
    rw [ea]
    exact (h3 _ (List.getElem_mem hs)).1
  · intro j k hj hk h
    have hsj : slotOf j < ads.length := by rw [hlen]; exact Nat.mod_lt _ (by decide)
    have hsk : slotOf k < ads.length := by rw [hlen]; exact Nat.mod_lt _ (by decide)
    have ej : ads.getD (slotOf j) ⟨0, 0, none⟩ = ads[slotOf j] := by rw [List.getD_eq_getElem?_getD, List.getElem?_eq_getElem hsj]; rfl
    have ek : ads.getD (slotOf k) ⟨0, 0, none⟩ = ads[slotOf k] := by rw [List.getD_eq_getElem?_getD, List.getElem?_eq_getElem hsk]; rfl
    have h' : ads[slotOf j] = ads[slotOf k] := ej.symm.trans (h.trans ek)
    exact slotOf_inj j k hj hk (nodup_inj hnd hsj hsk h')


/-! ### a world that meets the list -/
noncomputable def low : Nat := (World.holding Tryd.prog default ⟨#[], #[], []⟩).heap.size
/-- A variable's one cell, laid. -/
def layCell (v : Value) (o : Obj) : Obj := match o with
  | .cells _ t frozen => .cells #[v] t frozen
  | o => o
def ptr94 (b : Nat) : Value := .iface 118 (.pointer (some ⟨b, 0, none⟩))
noncomputable def laidWorld (os : Os) : World :=
  let w0 := World.holding Tryd.prog os ⟨#[.cells #[.string { data := #[98, 97, 100, 32, 114, 117, 108, 101] }] 135, .cells #[.string { data := #[98, 97, 100, 32, 119, 111, 114, 100] }] 135, .cells #[.string { data := #[98, 97, 100, 32, 97, 114, 103, 117, 109, 101, 110, 116] }] 135, .cells #[.string { data := #[116, 111, 111, 32, 98, 105, 103] }] 135, .cells #[.string { data := #[110, 111, 32, 98, 117, 100, 103, 101, 116] }] 135, .cells #[.string { data := #[98, 97, 100, 32, 116, 101, 120, 116] }] 135, .cells #[.string { data := #[98, 97, 100, 32, 112, 97, 116, 99, 104] }] 135, .cells #[.string { data := #[98, 97, 100, 32, 99, 101, 114, 116, 105, 102, 105, 99, 97, 116, 101] }] 135, .cells #[.string { data := #[110, 111, 32, 105, 110, 118, 101, 114, 115, 101] }] 135, .cells #[.string { data := #[98, 97, 100, 32, 108, 105, 110, 101] }] 135, .cells #[.string { data := #[98, 97, 100, 32, 115, 116, 97, 116, 101] }] 135, .cells #[.string { data := #[117, 110, 107, 110, 111, 119, 110] }] 135], #[], []⟩
  { w0 with heap := (((((((((((w0.heap.modify 0 (layCell (ptr94 (low + 0)))).modify 1 (layCell (ptr94 (low + 1)))).modify 2 (layCell (ptr94 (low + 2)))).modify 3 (layCell (ptr94 (low + 3)))).modify 4 (layCell (ptr94 (low + 4)))).modify 5 (layCell (ptr94 (low + 5)))).modify 6 (layCell (ptr94 (low + 6)))).modify 7 (layCell (ptr94 (low + 7)))).modify 8 (layCell (ptr94 (low + 8)))).modify 9 (layCell (ptr94 (low + 9)))).modify 10 (layCell (ptr94 (low + 10)))).modify 11 (layCell (ptr94 (low + 11))) }
end Go.Proofs.YtienaogmljlmlaaDoor
end
section
namespace Go.Proofs.YtienaogmljlmlaaDoor
open Go.ChangeShapes Go.WideShapes Go.ChangeAt Go.RowKit

theorem laidOut : laidOutB Tryd.prog = true := by kernel_rfl

/-- A type that a reading can be carried on at. -/
def Carries (t : TypeId) : Prop := Tryd.prog.readableRec t = true ∧ t < Tryd.prog.types.size
theorem trodAll_below {H : Type} {enc : TypeId × Value → H} {W W' : World} (hb : Below W.heap.size W W') (ts : List TypeId) : ∀ {vs : List Value} {ds : List (DataW H)} {ps : List MemPlace},
    (∀ t ∈ ts, Carries t) → (∀ x ∈ ps, x.block < W.heap.size) →
    DataW.TrodAll enc Tryd.prog W 0 (fun _ => true) true ts vs ds ps → DataW.TrodAll enc Tryd.prog W' 0 (fun b => decide (b < W.heap.size)) true ts vs ds ps := by
  induction ts with
  | nil =>
    intro vs ds ps _ _ h
    obtain ⟨rfl, rfl, rfl⟩ := trodAll_nil h
    exact trodAll_mk0
  | cons t ts ih =>
    intro vs ds ps hr hlt h
    obtain ⟨v, vs', d, ds', p, q, rfl, rfl, rfl, h0, h1⟩ := trodAll_cons h
    have ht := hr t (List.mem_cons_self ..)
    exact trodAll_cons_mk (Below.trod laidOut ht.1 ht.2 h0 hb fun x hx => hlt x (List.mem_append_left _ hx))
      (ih (fun u hu => hr u (List.mem_cons_of_mem _ hu)) (fun x hx => hlt x (List.mem_append_right _ hx)) h1)

/-- The post of a law's row. -/
theorem law_post {H : Type} {enc : TypeId × Value → H} {W W' : World} {args : Array Value} {ds gs : List (DataW H)} {before : List MemPlace} (spec : ChangeSpec) (fn : Func)
    (hres : fn.resultTypes = #[4]) (hv : spec.vars = []) (hf : spec.fn H (ds ++ gs) = { results := [.lit (.bool true)], args := ds })
    (hr : ∀ t ∈ fn.params.toList, Carries t)
    (hW : DataW.Whole enc Tryd.prog fn.params.toList spec.vars false W args.toList ds gs before) (hb : Below W.heap.size W W') :
    spec.post enc Tryd.prog fn false true false false W args (.bool true) W' := by
  have hW' := hW
  have hlt : ∀ x ∈ before, x.block < W.heap.size := fun x hx => by simpa using hW'.lt x hx
  obtain ⟨p, q, hA0, hV, rfl, hfz, hnd⟩ := hW
  have hA : DataW.TrodAll enc Tryd.prog W 0 (fun _ => true) true fn.params.toList args.toList ds p := hA0
  refine ⟨_, _, _, [], p, [], hW', ?_, ?_, ?_, hb.frame _, fun h => by cases h⟩
  · rw [hf, hres]
    exact trodAll_mk1 (shut_bool Tryd.underlying4 true)
  · rw [hf]
    exact trodAll_below hb _ hr (fun x hx => hlt x (List.mem_append_left _ hx)) hA
  · rw [hf, hv]
    rfl

end Go.Proofs.YtienaogmljlmlaaDoor
end
section
namespace Go.Proofs.YtienaogmljlmlaaDoor
open Go.RowKit WordM

open Classical in
/-- the period of a word; 0 for the empty one -/
noncomputable def perW (l : List Int) : Nat := if h : l.length ≠ 0 ∧ ∃ p, IsPer l p then h.2.choose else 0
theorem perW_eq {l : List Int} {p : Nat} (h0 : l.length ≠ 0) (h : IsPer l p) : perW l = p := by
  unfold perW
  have hx : l.length ≠ 0 ∧ ∃ p, IsPer l p := ⟨h0, p, h⟩
  rw [dif_pos hx]
  exact isPer_unique hx.2.choose_spec h
theorem perW_nil : perW [] = 0 := by unfold perW; rw [dif_neg (by simp)]
open Classical in
/-- the least turn of a word; 0 for the empty one -/
noncomputable def leastW (l : List Int) : Nat := if h : ∃ p, IsLeast l p then h.choose else 0
theorem leastW_eq {l : List Int} {p : Nat} (h : IsLeast l p) : leastW l = p := by
  unfold leastW
  have hx : ∃ p, IsLeast l p := ⟨p, h⟩
  rw [dif_pos hx]
  exact isLeast_unique hx.choose_spec h
theorem leastW_nil : leastW [] = 0 := by
  unfold leastW
  rw [dif_neg]
  rintro ⟨p, h⟩
  have := h.1
  simp at this
theorem leastW_is {l : List Int} (h : 0 < l.length) : IsLeast l (leastW l) := by
  obtain ⟨p, hp⟩ := least_exists h
  rw [leastW_eq hp]; exact hp

theorem piece_same {l : List Int} {q n : Nat} (hn : n = l.length) (hd : q ∣ n) (h : sameI (l.drop q) (l.take (n - q)) = true) : Per l q := by
  have e : l.drop q = l.take (n - q) := by simpa [sameI] using h
  refine per_piece (by rw [← hn]; exact hd) (fun i hi => ?_)
  have h1 := congrArg (fun x : List Int => x[i]?) e
  simp only [List.getElem?_drop, List.getElem?_take] at h1
  rw [if_pos (by omega)] at h1
  rw [Nat.add_comm]
  exact h1
theorem piece_other {l : List Int} {q n : Nat} (hn : n = l.length) (hq : q ≤ n) (h : sameI (l.drop q) (l.take (n - q)) = false) : ¬ Per l q := by
  intro k
  have e : ¬ l.drop q = l.take (n - q) := by simpa [sameI] using h
  apply e
  apply List.ext_getElem?
  intro i
  rw [List.getElem?_drop, List.getElem?_take]
  by_cases hi : i < n - q
  · rw [if_pos hi, Nat.add_comm]
    exact piece_per k i (by omega)
  · rw [if_neg hi, List.getElem?_eq_none (by omega)]
end Go.Proofs.YtienaogmljlmlaaDoor
end
section
namespace Go.Proofs.YtienaogmljlmlaaDoor
open Go.ChangeShapes Go.WideShapes Go.ChangeAt Go.RowKit Go.Extern.Stop Go.Stop Go.Extern WordM NatM

/-- Lists that are known in the world wx; below w nothing has changed. -/
structure Si (w wx : World) (L : List Sl) : Prop where
  each : ∀ x : Sl, x ∈ L → IntV wx.heap.size wx x.1 x.2.1 x.2.2
  below : Below w.heap.size w wx
theorem Si.start (w : World) : Si w w [] := ⟨(fun x h => by cases h), Below.refl _ _⟩
theorem Si.get {w wx : World} {L : List Sl} (S : Si w wx L) (i : Nat) {p : Option Addr} {c : Nat} {l : List Int} (h : L[i]? = some (p, c, l)) : IntV wx.heap.size wx p c l := S.each _ (List.mem_of_getElem? h)
theorem Si.next {w wx w' : World} {L : List Sl} (S : Si w wx L) (hb : Below wx.heap.size wx w') : Si w w' L :=
  ⟨fun x hx => (S.each x hx).next hb, S.below.trans (hb.mono S.below.size)⟩
theorem Si.push {w wx : World} {L : List Sl} (S : Si w wx L) {p : Option Addr} {c : Nat} {l : List Int} (h : IntV wx.heap.size wx p c l) : Si w wx ((p, c, l) :: L) :=
  ⟨fun x hx => by
    rcases List.mem_cons.1 hx with rfl | hx
    · exact h
    · exact S.each x hx, S.below⟩
theorem Si.alloc {w wx : World} {L : List Sl} (S : Si w wx L) (o : Obj) : Si w (wx.alloc o) L := S.next ((Below.refl _ _).alloc (Nat.le_refl _) _)
/-- a literal of ints, just laid -/
theorem Si.lit {w wx : World} {L : List Sl} (S : Si w wx L) (l : List Int) (cs : Array Value) (t : TypeId) (hc : cs.toList = cI l) (hl : l.length ≤ 1000) :
    Si w (wx.alloc (.cells cs t)) ((some ⟨wx.heap.size, 0, none⟩, l.length, l) :: L) := (S.alloc _).push (IntV.laid l cs t hc hl)
theorem Si.drew {w wx : World} {L : List Sl} (S : Si w wx L) : Si w wx.drew L := S.next (Below.refl _ _).drew

theorem next_011 : IsNext 2 [0, 1, 1] [1, 0, 0] := Or.inl ⟨0, 0, rfl, by decide, by decide, by decide⟩
theorem ok_011 : okW 2 [0, 1, 1] := fun x hx => by simp at hx; omega
theorem chk_011 : chkW 2 [0, 1, 1] = none := by decide
def txt031 : ByteArray := { data := #[48, 51, 49] }
theorem chk_031 : chkW 4 (sW txt031) = none := by decide +kernel
theorem sW_031 : sW txt031 = [0, 3, 1] := by decide +kernel
theorem cmp_0100 : cmpW [0, 1] [0, 0] = 1 := by decide
theorem per_0101 : perW [0, 1, 0, 1] = 2 := by
  refine perW_eq (by decide) ⟨by decide, ⟨2, rfl⟩, fun i => ?_, fun q h1 h2 => ?_⟩
  · have h : i % 4 = 0 ∨ i % 4 = 1 ∨ i % 4 = 2 ∨ i % 4 = 3 := by omega
    unfold F
    show ([0, 1, 0, 1] : List Int).getD ((i + 2) % 4) 0 = ([0, 1, 0, 1] : List Int).getD (i % 4) 0
    rcases h with h | h | h | h
    · rw [h, show (i + 2) % 4 = 2 by omega]; rfl
    · rw [h, show (i + 2) % 4 = 3 by omega]; rfl
    · rw [h, show (i + 2) % 4 = 0 by omega]; rfl
    · rw [h, show (i + 2) % 4 = 1 by omega]; rfl
  · obtain rfl : q = 1 := by omega
    rintro ⟨_, h⟩
    have := h 0
    revert this
    decide

/-- every one is an int's value -/
def okI (l : List Int) : Prop := ∀ x ∈ l, -9223372036854775808 ≤ x ∧ x ≤ 9223372036854775807
theorem cellsInt_1 : Tryd.prog.cellsOf 3 = 1 := by kernel_rfl
theorem wf_i64 {n : Int} (h : (Lit.int .i64 n).wf = true) : -9223372036854775808 ≤ n ∧ n ≤ 9223372036854775807 := by
  have := bounds_i64 h
  omega
/-- an argument that is a list of ints, opened -/
theorem open_intl {H : Type} {enc : TypeId × Value → H} {W : World} {v : Value} {d : DataW H} {p : List MemPlace} (hok : ∃ a len cap, v = .slice a len cap)
    (h : DataW.Trod enc Tryd.prog W 0 (fun _ => true) true 22 v d p) (hlt : ∀ x ∈ p, x.block < W.heap.size) :
    ∃ (a : Option Addr) (cap : Nat) (l : List Int), v = .slice a l.length cap ∧ IntV W.heap.size W a cap l ∧ okI l := by
  obtain ⟨a0, len, cap, rfl⟩ := hok
  obtain ⟨fuel, hf⟩ := h
  rcases open_ints Tryd.underlying22 Tryd.underlying3 cellsInt_1 hf with ⟨hcs, _⟩ | ⟨a, len', cap', zs, hcs, _, hl, hm, hz, hx, hcell, hwf⟩
  · simp [Value.cells] at hcs
    obtain ⟨rfl, rfl, rfl⟩ := hcs
    exact ⟨none, 0, [], rfl, ⟨Nat.le_refl _, Nat.zero_le _, fun _ => rfl, fun h => absurd rfl h⟩, fun x h => by cases h⟩
  · simp [Value.cells] at hcs
    obtain ⟨rfl, rfl, rfl⟩ := hcs
    simp only [if_true] at hz
    obtain ⟨rfl, rfl⟩ := Prod.mk.inj hx
    have hlen : (zs.take len).length = len := by rw [List.length_take]; omega
    refine ⟨some a, cap, zs.take len, by rw [hlen], ⟨by rw [hlen]; exact hl, hm, (fun h => by cases h), fun hn => ?_⟩, fun x hx => wf_i64 (hwf x (List.mem_of_mem_take hx))⟩
    obtain ⟨b, off, spot⟩ := a
    have h0 : 0 < zs.length := by
      have := List.length_pos_iff.2 hn
      rw [hlen] at this
      omega
    have hspot : spot = none := by simpa [Addr.add] using World.cell?_spot (hcell 0 h0)
    subst hspot
    refine ⟨b, off, rfl, hlt (.cell b off) (MemPlace.mem_row.2 ⟨0, h0, by simp⟩), fun j x hx => ?_⟩
    have hj := ltI hx
    rw [hlen] at hj
    have hjz : j < zs.length := by omega
    have hc := hcell j hjz
    have e : zs.getD j 0 = x := by
      rw [List.getElem?_take, if_pos hj] at hx
      rw [List.getD_eq_getElem?_getD, hx]; rfl
    rw [e, add_plain] at hc
    exact hc

theorem weights_get {H : Type} {P : Program} : ∀ (ts : List TypeId) (ds : List (DataW H)) (i : Nat) (t : TypeId) (d : DataW H), ts[i]? = some t → ds[i]? = some d → ∀ x ∈ d.weights P t, x ∈ DataW.weightsEach P ts ds
  | [], _, _, _, _, h, _, _, _ => by simp at h
  | _ :: _, [], _, _, _, _, h, _, _ => by simp at h
  | t0 :: ts, d0 :: ds, 0, t, d, ht, hd, x, hx => by
    simp at ht hd; subst ht hd
    unfold DataW.weightsEach
    exact List.mem_append_left _ hx
  | t0 :: ts, d0 :: ds, i + 1, t, d, ht, hd, x, hx => by
    unfold DataW.weightsEach
    exact List.mem_append_right _ (weights_get ts ds i t d (by simpa using ht) (by simpa using hd) x hx)
theorem bytesInt : Tryd.prog.bytesOf 3 = 8 := by kernel_rfl
/-- a list of ints that came in is shorter than 2^44 -/
theorem open_reach {H : Type} {enc : TypeId × Value → H} {W : World} {a : Option Addr} {len cap : Nat} {d : DataW H} {p : List MemPlace}
    (h : DataW.Trod enc Tryd.prog W 0 (fun _ => true) true 22 (.slice a len cap) d p) (hw : ∀ x ∈ d.weights Tryd.prog 22, x ≤ reachBytes) : len ≤ 17592186043904 := by
  obtain ⟨fuel, hf⟩ := h
  rcases open_ints Tryd.underlying22 Tryd.underlying3 cellsInt_1 hf with ⟨hcs, _⟩ | ⟨a, len', cap', zs, hcs, _, hl, hm, hz, hx, hcell, hwf⟩
  · simp [Value.cells] at hcs
    omega
  · simp [Value.cells] at hcs
    obtain ⟨rfl, rfl, rfl⟩ := hcs
    simp only [if_true] at hz
    obtain ⟨rfl, rfl⟩ := Prod.mk.inj hx
    have h1 := hw ((zs.take len).length * 8 + (zs.drop len).length * 8) (by
      unfold DataW.weights
      rw [Tryd.underlying22]
      simp only [lits, List.length_map, bytesInt]
      rw [← Nat.add_mul]
      exact List.mem_cons_self ..)
    unfold reachBytes at h1
    rw [List.length_take] at h1
    omega
end Go.Proofs.YtienaogmljlmlaaDoor
end
section
namespace Go.Proofs.YtienaogmljlmlaaDoor
open Go.RowKit Go.Extern.Stop Go.Stop Go.Extern WordM RuleM NatM

theorem two_boxes (w : World) (a b c a' b' c' : Value) (w0 : World) (hw0 : w0 = (w.alloc (.cells #[a, b, c] 24)).alloc (.cells #[a', b', c'] 24)) :
    Below w.heap.size w w0 ∧ Rul3 w0 w.heap.size a b c ∧ Rul3 w0 (w.heap.size + 1) a' b' c' := by
  have h1 : Below w.heap.size w (w.alloc (.cells #[a, b, c] 24)) := (Below.refl _ _).alloc (Nat.le_refl _) _
  have h2 : Below (w.alloc (.cells #[a, b, c] 24)).heap.size (w.alloc (.cells #[a, b, c] 24)) w0 := by rw [hw0]; exact (Below.refl _ _).alloc (Nat.le_refl _) _
  have hs : (w.alloc (.cells #[a, b, c] 24)).heap.size = w.heap.size + 1 := by simp
  refine ⟨h1.trans (h2.mono h1.size), (Rul3.new w a b c).next h2, ?_⟩
  have := Rul3.new (w.alloc (.cells #[a, b, c] 24)) a' b' c'
  rw [← hw0, hs] at this
  exact this

set_option maxRecDepth 100000 in
set_option maxHeartbeats 2000000 in
theorem rules_same (k r : Int) (p q : Option Addr) (n c d : Nat) (t : List Int) (w : World) (hn : n = t.length) (h : IntV w.heap.size w p c t) (h' : IntV w.heap.size w q d t) :
    Calls Tryd.prog 12 #[.agg #[.int .i64 k, .int .i64 r, .slice p n c], .agg #[.int .i64 k, .int .i64 r, .slice q n d]] w (Tells (.bool true) w) := by
  have H := Lib.hid (And.intro h (And.intro h' hn))
  clear h h' hn
  go_enter Tryd.func12, Tryd.ntmps12
  go_upto_region 1 with fail
  obtain ⟨w0, hw0⟩ : ∃ w0, w0 = (w.alloc (.cells #[.int .i64 k, .int .i64 r, .slice p n c] 24)).alloc (.cells #[.int .i64 k, .int .i64 r, .slice q n d] 24) := ⟨_, rfl⟩
  obtain ⟨hb0, hE0, hE1⟩ := two_boxes w _ _ _ _ _ _ w0 hw0
  rw [← hw0]
  obtain ⟨_, hc0, hc1, hc2⟩ := hE0.facts
  obtain ⟨_, hd0, hd1, hd2⟩ := hE1.facts
  have HE := Lib.hid hb0
  have hsz : (w.alloc (.cells #[.int .i64 k, .int .i64 r, .slice p n c] 24)).heap.size = w.heap.size + 1 := by simp
  clear hw0 hE0 hE1 hb0
  go_wp2_with fail
  refine (ints_any p q n n c d t t w0 H.out.2.2 H.out.2.2 (H.out.1.next HE.out) (H.out.2.1.next HE.out)).mono ?_
  rintro e w1 ⟨rfl, hb1⟩
  rw [sameI_self]
  have HF := Lib.hid (HE.out.trans (hb1.mono HE.out.size))
  clear hb1
  go_wp2_with fail
  go_ret
  exact ⟨rfl, HF.out⟩

theorem put3_block (w : World) (h : Nat) (a b c : Value) (g : Nat) (hg : g ≠ h) : (put3 w h a b c).heap[g]? = w.heap[g]? := by
  have set : ∀ (w : World) (i : Nat) (v : Value), (w.setCell ⟨h, i, none⟩ v).heap[g]? = w.heap[g]? := fun w i v => by
    show (w.heap.modify h _)[g]? = _
    rw [Array.getElem?_modify, if_neg (Ne.symm hg)]
  unfold put3
  rw [set, set, set]
/-- a rule whose table is lent -/
def LentR (w : World) (k r : Int) (t : List Int) (e : Ending) (w' : World) : Prop :=
  ∃ g, e = .returned (.agg #[.int .i64 k, .int .i64 r, .slice (some ⟨g, 0, none⟩) t.length (t.length + 2)]) ∧ w.heap.size ≤ g ∧ LentI w' g t ∧ Below w.heap.size w w'
set_option maxRecDepth 100000 in
set_option maxHeartbeats 4000000 in
theorem lentR_any (k r : Int) (p : Option Addr) (n c : Nat) (t : List Int) (w : World) (hn : n = t.length) (h : IntV w.heap.size w p c t) (hl : t.length ≤ 17592186043904) :
    Calls Tryd.prog 18 #[.agg #[.int .i64 k, .int .i64 r, .slice p n c]] w (LentR w k r t) := by
  have hlent : ∀ W, IntV W.heap.size W p c t → Calls Tryd.prog 41 #[.slice p n c] W (LentPostI W t) := fun W hW => by rw [hn]; exact lentI_any p c t W hW hl
  unfold LentPostI at hlent
  unfold LentR
  rw [← hn]
  simp only [← hn] at hlent
  have H := Lib.hid (And.intro h (And.intro hlent hn))
  clear h hlent hl hn
  go_enter Tryd.func18, Tryd.ntmps18
  go_upto_region 1 with fail
  obtain ⟨w0, hw0⟩ : ∃ w0, w0 = (w.alloc (.cells #[.int .i64 k, .int .i64 r, .slice p n c] 24)).alloc (.cells #[.int .i64 0, .int .i64 0, .slice none 0 0] 24) := ⟨_, rfl⟩
  obtain ⟨hb0, hE0, hE1⟩ := two_boxes w _ _ _ _ _ _ w0 hw0
  rw [← hw0]
  have hsz : (w.alloc (.cells #[.int .i64 k, .int .i64 r, .slice p n c] 24)).heap.size = w.heap.size + 1 := by simp
  have hs0 := hb0.size
  have hs1 := hE1.lt
  have hlen : ∀ wx, Below w0.heap.size w0 wx → Calls Tryd.prog 41 #[.slice p n c] wx fun e w' => e = .returned (.slice (some ⟨wx.heap.size, 0, none⟩) n (n + 2)) ∧ LentI w' wx.heap.size t ∧ Below wx.heap.size wx w' := fun wx hb => H.out.2.1 wx ((H.out.1.next hb0).next hb)
  have hxA : ∀ wx : World, Below w0.heap.size w0 wx → wx.cell? ⟨w.heap.size, 0, none⟩ = some (.int .i64 k) := fun wx hbx => (hE0.next hbx).facts.2.1
  have hxB : ∀ wx : World, Below w0.heap.size w0 wx → wx.cell? ⟨w.heap.size, 1, none⟩ = some (.int .i64 r) := fun wx hbx => (hE0.next hbx).facts.2.2.1
  have hxC : ∀ wx : World, Below w0.heap.size w0 wx → wx.cell? ⟨w.heap.size, 2, none⟩ = some (.slice p n c) := fun wx hbx => (hE0.next hbx).facts.2.2.2
  have hd0 : Below w0.heap.size w0 w0.drew := (Below.refl _ _).drew
  have HE := Lib.hid (And.intro hE1 hb0)
  clear hw0 hE0 hE1 hb0
  go_region_held3 (fun w' => w'.cell? ⟨w.heap.size, 0, none⟩ = some (.int .i64 k) ∧ w'.cell? ⟨w.heap.size, 1, none⟩ = some (.int .i64 r) ∧ w'.cell? ⟨w.heap.size, 2, none⟩ = some (.slice p n c)) (first | exact ⟨hxA _ hd0, hxB _ hd0, hxC _ hd0⟩ | exact ⟨hxA _ (Below.refl _ _), hxB _ (Below.refl _ _), hxC _ (Below.refl _ _)⟩ | exact ⟨hA1, hB1, hC1⟩ | go_keep) (first | (go_at_call 41; refine (hlen _ (by first | exact hd0 | exact Below.refl _ _)).mono ?_; rintro e wl ⟨rfl, hLl, hbl⟩; have hBl : Below w0.heap.size w0 wl := (by first | exact hd0.trans (hbl.mono hd0.size) | exact hbl); have hA1 := hxA wl hBl; have hB1 := hxB wl hBl; have hC1 := hxC wl hBl; obtain ⟨⟨hf0, hf1, hf2⟩, hz0, hz1, hz2⟩ := (HE.out.1.next hBl).facts))
  all_goals
    have HF := Lib.hid (And.intro hLl (HE.out.2.trans (hBl.mono (by omega))))
    clear hxA hxB hxC hlen hbl hBl hLl hA1 hB1 hC1
    go_wp2_with fail
    refine bodyPost_ret (v := .agg #[.int .i64 k, .int .i64 r, .slice (some ⟨w0.heap.size, 0, none⟩) n (n + 2)]) (by simp [results, Tryd.results18, go_sem, hz0, hz1, hz2]) rfl ⟨w0.heap.size, rfl, hs0, ?_, ?_⟩
    · exact LentI.block (put3_block wl (w.heap.size + 1) _ _ _ _ (by omega)) HF.out.1
    · exact put3_below HF.out.2 (by omega) _ _ _

set_option maxRecDepth 100000 in
set_option maxHeartbeats 2000000 in
theorem keptR_any (g : Nat) (k r : Int) (p : Option Addr) (n m c : Nat) (t : List Int) (w : World) (hg : LentI w g t) (h : IntV w.heap.size w p c t) (hl : t.length ≤ 17592186043904) (hn : n = t.length) (hm : m = t.length + 2) :
    Calls Tryd.prog 22 #[.agg #[.int .i64 k, .int .i64 r, .slice (some ⟨g, 0, none⟩) n m], .agg #[.int .i64 k, .int .i64 r, .slice p n c]] w (Tells (.bool true) w) := by
  have H := Lib.hid (And.intro h (And.intro hg (And.intro hn (And.intro hm hl))))
  clear h hg hn hm hl
  go_enter Tryd.func22, Tryd.ntmps22
  go_upto_region 1 with fail
  obtain ⟨w0, hw0⟩ : ∃ w0, w0 = (w.alloc (.cells #[.int .i64 k, .int .i64 r, .slice (some ⟨g, 0, none⟩) n m] 24)).alloc (.cells #[.int .i64 k, .int .i64 r, .slice p n c] 24) := ⟨_, rfl⟩
  obtain ⟨hb0, hE0, hE1⟩ := two_boxes w _ _ _ _ _ _ w0 hw0
  rw [← hw0]
  obtain ⟨_, hc0, hc1, hc2⟩ := hE0.facts
  obtain ⟨_, hd0, hd1, hd2⟩ := hE1.facts
  have HE := Lib.hid hb0
  have hsz : (w.alloc (.cells #[.int .i64 k, .int .i64 r, .slice (some ⟨g, 0, none⟩) n m] 24)).heap.size = w.heap.size + 1 := by simp
  clear hw0 hE0 hE1 hb0
  go_wp2_with fail
  have hk := keptI_any g p n m c t w0 (H.out.2.1.below HE.out) (H.out.1.next HE.out) H.out.2.2.2.2 H.out.2.2.1 H.out.2.2.2.1
  rw [← H.out.2.2.1] at hk
  refine hk.mono ?_
  rintro e w1 ⟨rfl, hb1⟩
  have HF := Lib.hid (HE.out.trans (hb1.mono HE.out.size))
  clear hb1 hk
  go_wp2_with fail
  go_ret
  exact ⟨rfl, HF.out⟩

def T110 : List Int := [0, 1, 1, 1, 0, 1, 1, 0]
def txt110 : ByteArray := { data := #[50, 46, 49, 46, 49, 49, 48] }
def ParsePost110 (w : World) (e : Ending) (w' : World) : Prop :=
  ∃ p c, e = .returned (.tuple #[.agg #[.int .i64 2, .int .i64 1, .slice p 8 c], .nilIface]) ∧ IntO w.heap.size w' p c T110 ∧ Below w.heap.size w w'
theorem ok110 : OkR 2 1 T110 := ⟨by decide, by decide, by decide, by decide, fun x hx => by unfold T110 at hx; simp at hx; omega⟩
theorem parse_110 (w : World) : Calls Tryd.prog 23 #[.string txt110] w (ParsePost110 w) := by
  have hK : symK txt110 = 2 := by decide +kernel
  have hR : symR txt110 = 1 := by decide +kernel
  have hN : numOf (bsOf (restS txt110)) = 110 := by decide +kernel
  have h := rparse_ok txt110 w (by decide +kernel) (by decide +kernel) (by rw [hK, hR]; decide) (by decide +kernel) (by rw [hK, hR, hN]; decide)
  rw [hK, hR, hN] at h
  refine h.mono ?_
  rintro e w' ⟨t, ht, hc, p, c, he, ho, hb⟩
  obtain rfl : t = T110 := code_inj ht ok110 (by rw [hc]; decide +kernel)
  exact ⟨p, c, he, ho, hb⟩
def W5 : List Int := [0, 0, 1, 1, 1]
theorem ok5 : okW 2 W5 := fun x hx => by unfold W5 at hx; simp at hx; omega
theorem img110 : imgW 2 1 T110 W5 = [1, 1, 0] := by decide +kernel
theorem step_110 (p q : Option Addr) (c d : Nat) (w : World) (h : IntV w.heap.size w p c T110) (hl : IntV w.heap.size w q d W5) :
    Calls Tryd.prog 25 #[.agg #[.int .i64 2, .int .i64 1, .slice p 8 c], .slice q 5 d] w (IntOk w [1, 1, 0]) := by
  have := step_ok 2 1 p q 8 c 5 d T110 W5 w rfl rfl h hl (chkT_ok ok110 (by decide) ok5)
  have e : imgW (2 : Int).toNat (1 : Int).toNat T110 W5 = [1, 1, 0] := img110
  rwa [e] at this
theorem check_5 (w : World) (A : Nat → Addr) (hr : Roots w A) : Calls Tryd.prog 52 #[.agg #[.int .i64 5, .int .i64 0, .slice none 0 0]] w (Err1 w A ruleOp 0 1) :=
  rcheck_bad 5 0 none 0 0 [] w A hr rfl (IntV.nothing w) 0 (by decide)

end Go.Proofs.YtienaogmljlmlaaDoor
end
section
namespace Go.Proofs.YtienaogmljlmlaaDoor
open Go.RowKit Go.Extern.Stop Go.Stop Go.Extern WordM RuleM NatM

def itoaB (n : Int) : ByteArray := ⟨(Lib.itoa n).toArray⟩
theorem itoaB_size (n : Int) (h0 : -9223372036854775808 ≤ n) (h1 : n ≤ 9223372036854775807) : (itoaB n).size ≤ 21 := by
  have := Lib.itoa_length_le n h0 h1
  show (Lib.itoa n).toArray.size ≤ 21
  simpa using this
theorem itoa_small (n : Nat) (h : n ≤ 4) (w : World) :
    Calls Tryd.prog 50 #[.int .i64 (n : Int)] w (Tells (.string (itoaB (n : Int))) w) :=
  Tells.of_same ((Tryd.strconv_Itoa_small n (by omega) w).mono fun _ _ h => by first | exact h | exact ⟨h.1, h.2.symm⟩)

/-- a rule's text -/
def ruleText (K R N : Nat) : ByteArray := (((itoaB (K : Int) ++ ⟨#[46]⟩) ++ itoaB (R : Int)) ++ ⟨#[46]⟩) ++ textOf N

set_option maxRecDepth 100000 in
set_option maxHeartbeats 4000000 in
theorem rtext_ok (K R : Nat) (p : Option Addr) (n c : Nat) (t : List Int) (w : World) (hn : n = t.length) (h : IntV w.heap.size w p c t) (ho : OkR K R t) (hs : t.length ≤ 256) (hsz : (textOf (codeR K t)).size ≤ 100000) :
    Calls Tryd.prog 24 #[.agg #[.int .i64 (K : Int), .int .i64 (R : Int), .slice p n c]] w (Tells (.tuple #[.string (ruleText K R (codeR K t)), .nilIface]) w) := by
  have hcd := fun W hW => code_ok K R p n c t W hn hW ho hs
  have hNl : (D32 (codeR K t)).length ≤ 100000 := by
    have h1 := valW_len ho.k4 ho.rev
    unfold codeR
    rw [List.length_reverse] at h1
    omega
  obtain ⟨N, hN⟩ : ∃ N, codeR K t = N := ⟨_, rfl⟩
  rw [hN] at hsz hNl ⊢
  simp only [hN] at hcd
  have hnt := fun W q d hW => text_eq q (D32 N).length d (D32 N) W rfl hW hNl
  simp only [V32_D32] at hnt
  have hiK := fun W => itoa_small K ho.k4 W
  have hiR := fun W => itoa_small R (by have := ho.r3; omega) W
  have hsK := itoaB_size (K : Int) (by omega) (by have := ho.k4; omega)
  have hsR := itoaB_size (R : Int) (by omega) (by have := ho.r3; omega)
  have hdot : (⟨#[46]⟩ : ByteArray).size = 1 := rfl
  have a1 := fun (W : World) => run_string_add_sum (P := Tryd.prog) W (itoaB (K : Int)) ⟨#[46]⟩ (by omega)
  have a2 := fun (W : World) => run_string_add_sum (P := Tryd.prog) W (itoaB (K : Int) ++ ⟨#[46]⟩) (itoaB (R : Int)) (by rw [ByteArray.size_append]; omega)
  have a3 := fun (W : World) => run_string_add_sum (P := Tryd.prog) W ((itoaB (K : Int) ++ ⟨#[46]⟩) ++ itoaB (R : Int)) ⟨#[46]⟩ (by simp only [ByteArray.size_append]; omega)
  have a4 := fun (W : World) => run_string_add_sum (P := Tryd.prog) W (((itoaB (K : Int) ++ ⟨#[46]⟩) ++ itoaB (R : Int)) ++ ⟨#[46]⟩) (textOf N) (by simp only [ByteArray.size_append]; omega)
  have HF : Hid (ruleText K R N = (((itoaB (K : Int) ++ ⟨#[46]⟩) ++ itoaB (R : Int)) ++ ⟨#[46]⟩) ++ textOf N) := rfl
  obtain ⟨sK, hsK'⟩ : ∃ x, itoaB (K : Int) = x := ⟨_, rfl⟩
  obtain ⟨sR, hsR'⟩ : ∃ x, itoaB (R : Int) = x := ⟨_, rfl⟩
  obtain ⟨sN, hsN'⟩ : ∃ x, textOf N = x := ⟨_, rfl⟩
  simp only [hsK', hsR', hsN'] at hiK hiR hnt a1 a2 a3 a4 HF
  obtain ⟨p1, hp1⟩ : ∃ x, sK ++ (⟨#[46]⟩ : ByteArray) = x := ⟨_, rfl⟩
  rw [hp1] at a2 a3 a4 HF
  simp only [hp1] at a1
  obtain ⟨p2, hp2⟩ : ∃ x, p1 ++ sR = x := ⟨_, rfl⟩
  rw [hp2] at a3 a4 HF
  simp only [hp2] at a2
  obtain ⟨p3, hp3⟩ : ∃ x, p2 ++ (⟨#[46]⟩ : ByteArray) = x := ⟨_, rfl⟩
  rw [hp3] at a4 HF
  simp only [hp3] at a3
  obtain ⟨p4, hp4⟩ : ∃ x, p3 ++ sN = x := ⟨_, rfl⟩
  rw [hp4] at HF
  simp only [hp4] at a4
  obtain ⟨dl, hdl⟩ : ∃ z, (D32 N).length = z := ⟨_, rfl⟩
  simp only [hdl] at hnt
  have H := Lib.hid (And.intro h (And.intro hcd (And.intro hnt (And.intro hiK (And.intro hiR hdl)))))
  clear h hcd hnt hiK hiR hdl hn ho hs hsz hN hNl hsK hsR hdot hsK' hsR' hsN' hp1 hp2 hp3 hp4
  go_enter Tryd.func24, Tryd.ntmps24
  go_upto_region 1 with fail
  obtain ⟨w0, hw0⟩ : ∃ w0, w0 = w.alloc (.cells #[.int .i64 (K : Int), .int .i64 (R : Int), .slice p n c] 24) := ⟨_, rfl⟩
  have hb0 : Below w.heap.size w w0 := by rw [hw0]; exact (Below.refl _ _).alloc (Nat.le_refl _) _
  have hE0 : Rul3 w0 w.heap.size (.int .i64 (K : Int)) (.int .i64 (R : Int)) (.slice p n c) := by rw [hw0]; exact Rul3.new w _ _ _
  rw [← hw0]
  obtain ⟨_, hc0, hc1, hc2⟩ := hE0.facts
  have HE := Lib.hid (And.intro hE0 hb0)
  clear hw0 hE0 hb0
  go_wp2_with fail
  refine (H.out.2.1 w0 (H.out.1.next HE.out.2)).mono ?_
  rintro e w1 ⟨p1', c1', rfl, ho1, hb1⟩
  rw [H.out.2.2.2.2.2]
  clear hc0 hc1 hc2
  have hb01 := HE.out.2.trans (hb1.mono HE.out.2.size)
  have hx : ∀ wx : World, Below w1.heap.size w1 wx → wx.cell? ⟨w.heap.size, 0, none⟩ = some (.int .i64 (K : Int)) ∧ wx.cell? ⟨w.heap.size, 1, none⟩ = some (.int .i64 (R : Int)) := fun wx hbx =>
    ⟨((HE.out.1.next hb1).next hbx).facts.2.1, ((HE.out.1.next hb1).next hbx).facts.2.2.1⟩
  have hbx : ∀ wx : World, Below w1.heap.size w1 wx → Below w.heap.size w wx := fun wx hbx => hb01.trans (hbx.mono hb01.size)
  have hnx : ∀ wx : World, Below w1.heap.size w1 wx → NatV wx.heap.size wx p1' c1' (D32 N) := fun wx hbx => ho1.toV.next hbx
  have hr0 : Below w1.heap.size w1 w1 := Below.refl _ _
  have hd0 : Below w1.heap.size w1 w1.drew := (Below.refl _ _).drew
  have HX := Lib.hid (And.intro hx (And.intro hbx hnx))
  obtain ⟨hc0, hc1⟩ := hx w1 hr0
  clear hx hbx hnx hb01 ho1 hb1
  go_wp2_with fail
  go_region_held3 (fun w' => w'.cell? ⟨w.heap.size, 0, none⟩ = some (.int .i64 (K : Int)) ∧ w'.cell? ⟨w.heap.size, 1, none⟩ = some (.int .i64 (R : Int))) (first | exact HX.out.1 _ (by assumption) | go_keep) (first
    | (go_at_call 51; refine (H.out.2.2.1 _ p1' c1' (HX.out.2.2 _ (by assumption))).mono ?_; rintro e wl ⟨rfl, hbl⟩; have hBl := (by assumption : Below w1.heap.size w1 _).trans (hbl.mono (by assumption : Below w1.heap.size w1 _).size))
    | (go_at_call 50; refine (H.out.2.2.2.1 _).mono ?_; rintro e wl ⟨rfl, hbl⟩; have hBl := (by assumption : Below w1.heap.size w1 _).trans (hbl.mono (by assumption : Below w1.heap.size w1 _).size))
    | (go_at_call 50; refine (H.out.2.2.2.2.1 _).mono ?_; rintro e wl ⟨rfl, hbl⟩; have hBl := (by assumption : Below w1.heap.size w1 _).trans (hbl.mono (by assumption : Below w1.heap.size w1 _).size)))
  all_goals
    go_wp2_with fail
    go_ret2
    exact ⟨by rw [HF.out]; rfl, HX.out.2.1 _ (by assumption)⟩

set_option maxRecDepth 100000 in
set_option maxHeartbeats 4000000 in
theorem rtext_bad (k r : Int) (p : Option Addr) (n c : Nat) (t : List Int) (w : World) (A : Nat → Addr) (hr : Roots w A) (hn : n = t.length) (h : IntV w.heap.size w p c t) (i m : Nat) (hc : chkS k r t = some (i, m)) :
    Calls Tryd.prog 24 #[.agg #[.int .i64 k, .int .i64 r, .slice p n c]] w (Err2 w A ruleOp i m (.string ⟨#[]⟩)) := by
  have hcd := fun W hR hW => code_bad k r p n c t W A hR hn hW i m hc
  have H := Lib.hid (And.intro hr (And.intro h hcd))
  clear hr h hcd hn hc
  go_enter Tryd.func24, Tryd.ntmps24
  go_upto_region 1 with fail
  obtain ⟨w0, hw0⟩ : ∃ w0, w0 = w.alloc (.cells #[.int .i64 k, .int .i64 r, .slice p n c] 24) := ⟨_, rfl⟩
  have hb0 : Below w.heap.size w w0 := by rw [hw0]; exact (Below.refl _ _).alloc (Nat.le_refl _) _
  have hE0 : Rul3 w0 w.heap.size (.int .i64 k) (.int .i64 r) (.slice p n c) := by rw [hw0]; exact Rul3.new w _ _ _
  rw [← hw0]
  obtain ⟨_, hc0, hc1, hc2⟩ := hE0.facts
  have HE := Lib.hid (And.intro hE0 hb0)
  clear hw0 hE0 hb0
  go_wp2_with fail
  refine (H.out.2.2 w0 (H.out.1.below HE.out.2) (H.out.2.1.next HE.out.2)).mono ?_
  rintro e w1 ⟨b, rfl, hl1, hb1⟩
  have H1 := Lib.hid (And.intro hl1 (HE.out.2.trans (hb1.mono HE.out.2.size)))
  clear hl1 hb1
  go_wp2_with fail
  go_ret2
  exact ⟨b, rfl, H1.out.1, H1.out.2⟩
end Go.Proofs.YtienaogmljlmlaaDoor
end
