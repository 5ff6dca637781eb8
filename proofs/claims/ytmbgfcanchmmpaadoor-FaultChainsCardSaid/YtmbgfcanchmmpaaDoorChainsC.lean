/- FaultChains, third part: the document's own finds and Code on a node's tree. -/
import Derived.Test.YtmbgfcanchmmpaaDoorChainsB
namespace Go.Proofs.YtmbgfcanchmmpaaDoor
open Go.RowKit Go.Extern.Stop Go.Stop Go.Extern

def FindPost (w : World) (A : Nat → Addr) (t : Tree) (m : Nat) (e : Ending) (w' : World) : Prop := e = .returned (.bool (t.hits 94 (A m))) ∧ Below w.heap.size w w'
theorem kn_eq (n : Int) (m : Nat) (h1 : 1 ≤ m) (h2 : m ≤ 11) : (kn n == (m : Int)) = decide (m = known n) := by
  unfold kn known
  by_cases h : 1 ≤ n ∧ n ≤ 11
  · rw [if_pos h, if_pos h]
    by_cases e : n = m
    · subst e; simp
    · have : ¬ m = n.toNat := by omega
      simp [e, this]
  · rw [if_neg h, if_neg h]
    have e1 : ¬ (99 : Int) = (m : Int) := by omega
    have e2 : ¬ m = 0 := by omega
    simp [e1, e2]

set_option maxHeartbeats 8000000 in
theorem finds_any {w0 : World} {A : Nat → Addr} (hr : Roots w0 A) {nd : Nat → Nd} {p : Option Addr} {n cap : Nat} (hn : n ≤ 12) {i : Nat} {t : Tree} (f : Fits A nd i t) :
    ∀ (w : World) (m : Nat), Nodes w p n cap nd → i < n → 1 ≤ m → m ≤ 11 → Calls Tryd.prog 33 #[.slice p n cap, .int .i64 i, .int .i64 m] w (FindPost w A t m) := by
  have HR := Lib.hid hr
  clear hr
  induction f with
  | @root i h =>
    intro w m hw hi h1 h2
    have hc := Norm_as w hw hi hn h rfl rfl
    have hh : (Tree.leaf (A (known (nd i).n))).hits 94 (A m) = decide (m = known (nd i).n) := (Ends.leaf HR.out (known_le (nd i).n)).2 m h1 h2
    have hk := kn_eq (nd i).n m h1 h2
    unfold FindPost
    rw [hh, ← hk]
    have HW := Lib.hid hw
    have HF := Lib.hid (Fits.root (A := A) h)
    clear hw h hh hk
    go_enter Tryd.func33, Tryd.ntmps33
    go_wp2_with fail
    refine hc.mono ?_
    rintro e w1 ⟨rfl, hb⟩
    clear hc
    go_wp2_with fail
    refine (Nil_any hn HF.out _ (HW.out.below (hb.alloc hb.size _)) hi).mono ?_
    rintro e w2 ⟨rfl, hb2⟩
    have hx : (Tree.leaf (A (known (nd i).n))).isNil = false := rfl
    rw [hx]
    have hcell : w2.cell? ⟨w1.heap.size, 1, none⟩ = some (.int .i64 (nd i).n) := (hb2.cell (p := ⟨w1.heap.size, 1, none⟩) (by simp)).trans (by simp)
    have hB := (hb.alloc hb.size (.cells #[.int .i64 0, .int .i64 (nd i).n, .int .i64 (nd i).pl, .int .i64 (nrm i (nd i)).a, .int .i64 (nrm i (nd i)).b, .string (nd i).op] 67)).trans (hb2.mono (hb.alloc hb.size _).size)
    have HB := Lib.hid hB
    clear hB hb2 hb hx
    go_wp2_with (go_at_call 26; refine (Known_any (nd i).n _).mono ?_; rintro e w' ⟨rfl, rfl⟩)
    go_ret
    exact ⟨rfl, HB.out⟩
  | @other i a h ha =>
    intro w m hw hi h1 h2
    have hc := Norm_as w hw hi hn h rfl rfl
    have hh : (Tree.leaf a).hits 94 (A m) = false := by
      simp only [Tree.hits]
      exact decide_eq_false fun e => ha m h2 e.2
    unfold FindPost
    rw [hh]
    clear hw h hh ha
    go_enter Tryd.func33, Tryd.ntmps33
    go_wp2_with fail
    refine hc.mono ?_
    rintro e w1 ⟨rfl, hb⟩
    clear hc
    go_wp2_with fail
    go_ret
    exact ⟨rfl, hb.alloc hb.size _⟩
  | @new0 i h hz =>
    intro w m hw hi h1 h2
    have hc := Norm_as w hw hi hn h rfl rfl
    have hh : Tree.nil.hits 94 (A m) = false := rfl
    unfold FindPost
    rw [hh]
    have HW := Lib.hid hw
    have HF := Lib.hid (Fits.new0 (A := A) h hz)
    clear hw h hh hz
    go_enter Tryd.func33, Tryd.ntmps33
    go_wp2_with fail
    refine hc.mono ?_
    rintro e w1 ⟨rfl, hb⟩
    clear hc
    go_wp2_with fail
    refine (Nil_any hn HF.out _ (HW.out.below (hb.alloc hb.size _)) hi).mono ?_
    rintro e w2 ⟨rfl, hb2⟩
    have hx : Tree.nil.isNil = true := rfl
    rw [hx]
    have HB := Lib.hid ((hb.alloc hb.size (.cells #[.int .i64 2, .int .i64 (nd i).n, .int .i64 (nd i).pl, .int .i64 (nrm i (nd i)).a, .int .i64 (nrm i (nd i)).b, .string (nd i).op] 67)).trans (hb2.mono (hb.alloc hb.size _).size))
    clear hb2 hb hx
    go_wp2_with fail
    go_ret
    exact ⟨rfl, HB.out⟩
  | @new i b h hz =>
    intro w m hw hi h1 h2
    have hc := Norm_as w hw hi hn h rfl rfl
    have hh : (Tree.fault b (nd i).op (nd i).pl (.leaf (A (known (nd i).n)))).hits 94 (A m) = decide (m = known (nd i).n) := ((Ends.leaf HR.out (known_le (nd i).n)).fault (b := b) (op := (nd i).op) (pl := (nd i).pl)).2 m h1 h2
    have hk := kn_eq (nd i).n m h1 h2
    unfold FindPost
    rw [hh, ← hk]
    have HW := Lib.hid hw
    have HF := Lib.hid (Fits.new (A := A) (b := b) h hz)
    clear hw h hh hk hz
    go_enter Tryd.func33, Tryd.ntmps33
    go_wp2_with fail
    refine hc.mono ?_
    rintro e w1 ⟨rfl, hb⟩
    clear hc
    go_wp2_with fail
    refine (Nil_any hn HF.out _ (HW.out.below (hb.alloc hb.size _)) hi).mono ?_
    rintro e w2 ⟨rfl, hb2⟩
    have hx : (Tree.fault b (nd i).op (nd i).pl (.leaf (A (known (nd i).n)))).isNil = false := rfl
    rw [hx]
    have hcell : w2.cell? ⟨w1.heap.size, 1, none⟩ = some (.int .i64 (nd i).n) := (hb2.cell (p := ⟨w1.heap.size, 1, none⟩) (by simp)).trans (by simp)
    have hB := (hb.alloc hb.size (.cells #[.int .i64 2, .int .i64 (nd i).n, .int .i64 (nd i).pl, .int .i64 (nrm i (nd i)).a, .int .i64 (nrm i (nd i)).b, .string (nd i).op] 67)).trans (hb2.mono (hb.alloc hb.size _).size)
    have HB := Lib.hid hB
    clear hB hb2 hb hx
    go_wp2_with (go_at_call 26; refine (Known_any (nd i).n _).mono ?_; rintro e w' ⟨rfl, rfl⟩)
    go_ret
    exact ⟨rfl, HB.out⟩
  | @under0 i j h ha hj f ih | @under i j b t h ha hj f ht ih =>
    intro w m hw hi h1 h2
    have hc := Norm_as w hw hi hn h ha rfl
    have HW := Lib.hid hw
    clear hw h ha f
    go_enter Tryd.func33, Tryd.ntmps33
    go_wp2_with fail
    refine hc.mono ?_
    rintro e w1 ⟨rfl, hb⟩
    go_wp2_with fail
    refine (ih _ m (HW.out.below (hb.alloc hb.size _)) (by omega) h1 h2).mono ?_
    rintro e w2 ⟨rfl, hb2⟩
    have HB := Lib.hid ((hb.alloc hb.size (.cells #[.int .i64 3, .int .i64 (nd i).n, .int .i64 (nd i).pl, .int .i64 j, .int .i64 (nrm i (nd i)).b, .string (nd i).op] 67)).trans (hb2.mono (hb.alloc hb.size _).size))
    clear hb2 hb ih hc
    go_wp2_with fail
    go_ret
    exact ⟨by first | rfl | simp [Tree.hits], HB.out⟩
  | @own i j t h ha hj f ih =>
    intro w m hw hi h1 h2
    have hc := Norm_as w hw hi hn h ha rfl
    have HW := Lib.hid hw
    clear hw h ha f
    go_enter Tryd.func33, Tryd.ntmps33
    go_wp2_with fail
    refine hc.mono ?_
    rintro e w1 ⟨rfl, hb⟩
    go_wp2_with fail
    refine (ih _ m (HW.out.below (hb.alloc hb.size _)) (by omega) h1 h2).mono ?_
    rintro e w2 ⟨rfl, hb2⟩
    have HB := Lib.hid ((hb.alloc hb.size (.cells #[.int .i64 4, .int .i64 (nd i).n, .int .i64 (nd i).pl, .int .i64 j, .int .i64 (nrm i (nd i)).b, .string (nd i).op] 67)).trans (hb2.mono (hb.alloc hb.size _).size))
    clear hb2 hb ih hc
    go_wp2_with fail
    go_ret
    exact ⟨rfl, HB.out⟩
  | @shut i j t h ha hj f ih =>
    intro w m hw hi h1 h2
    have hc := Norm_as w hw hi hn h rfl rfl
    have hh : (Tree.shut t).hits 94 (A m) = false := rfl
    unfold FindPost
    rw [hh]
    clear hw h hh
    go_enter Tryd.func33, Tryd.ntmps33
    go_wp2_with fail
    refine hc.mono ?_
    rintro e w1 ⟨rfl, hb⟩
    clear hc
    go_wp2_with fail
    go_ret
    exact ⟨rfl, hb.alloc hb.size _⟩
  | @both i j k t u h ha hb' hj hk f g ih ig =>
    intro w m hw hi h1 h2
    have hc := Norm_as w hw hi hn h ha hb'
    have hh : (Tree.both t u).hits 94 (A m) = (t.hits 94 (A m) || u.hits 94 (A m)) := rfl
    unfold FindPost
    rw [hh]
    have HW := Lib.hid hw
    clear hw h ha hb' f g hh
    go_enter Tryd.func33, Tryd.ntmps33
    go_wp2_with fail
    refine hc.mono ?_
    rintro e w1 ⟨rfl, hb⟩
    go_wp2_with fail
    have hB1 := hb.alloc hb.size (.cells #[.int .i64 6, .int .i64 (nd i).n, .int .i64 (nd i).pl, .int .i64 j, .int .i64 k, .string (nd i).op] 67)
    refine (ih _ m (HW.out.below hB1) (by omega) h1 h2).mono ?_
    rintro e w2 ⟨he2, hb2⟩
    have hcell : w2.cell? ⟨w1.heap.size, 4, none⟩ = some (.int .i64 k) := (hb2.cell (p := ⟨w1.heap.size, 4, none⟩) (by simp)).trans (by simp)
    have hB := hB1.trans (hb2.mono hB1.size)
    have HB := Lib.hid hB
    by_cases hx : t.hits 94 (A m) = true
    · rw [hx] at he2
      have HX := Lib.hid hx
      clear hx hB hb2 hb ih ig hc hB1
      subst he2
      go_wp2_with fail
      go_ret
      exact ⟨by rw [HX.out]; rfl, HB.out⟩
    · have hx : t.hits 94 (A m) = false := by simpa using hx
      rw [hx] at he2
      have HX := Lib.hid hx
      clear hx hB hb2 hb ih hc hB1
      subst he2
      go_wp2_with fail
      refine (ig _ m (HW.out.below HB.out) (by omega) h1 h2).mono ?_
      rintro e w3 ⟨rfl, hb3⟩
      have HB3 := Lib.hid (HB.out.trans (hb3.mono HB.out.size))
      clear hb3 ig
      go_wp2_with fail
      go_ret
      exact ⟨by rw [HX.out]; rfl, HB3.out⟩
end Go.Proofs.YtmbgfcanchmmpaaDoor
