/- FaultChains, fourth part: the document's own Code, first and Faults on a node's tree. -/
import Derived.Test.YtmbgfcanchmmpaaDoorChainsC
namespace Go.Proofs.YtmbgfcanchmmpaaDoor
open Go.RowKit Go.Extern.Stop Go.Stop Go.Extern

theorem IsCode.unique {A : Nat → Addr} {t : Tree} {c d : Int} (h : IsCode A t c) (k : IsCode A t d) : c = d := by
  rcases h with ⟨h1, rfl⟩ | ⟨h1, m, hm1, hm2, rfl, hh, hj⟩ | ⟨h1, rfl, hj⟩ <;> rcases k with ⟨k1, rfl⟩ | ⟨k1, m', km1, km2, rfl, kh, kj⟩ | ⟨k1, rfl, kj⟩
  · rfl
  · rw [h1] at k1; cases k1
  · rw [h1] at k1; cases k1
  · rw [h1] at k1; cases k1
  · rcases Nat.lt_trichotomy m m' with h | h | h
    · have := kj m hm1 h; rw [hh] at this; cases this
    · rw [h]
    · have := hj m' km1 h; rw [kh] at this; cases this
  · have := kj m hm1 hm2; rw [hh] at this; cases this
  · rw [h1] at k1; cases k1
  · have := hj m' km1 km2; rw [kh] at this; cases this
  · rfl

set_option maxHeartbeats 4000000 in
theorem refCode_any {w0 : World} {A : Nat → Addr} (hr : Roots w0 A) {nd : Nat → Nd} {p : Option Addr} {n cap : Nat} (hn : n ≤ 12) {i : Nat} {t : Tree} (f : Fits A nd i t) (w : World) (hw : Nodes w p n cap nd) (hi : i < n) :
    Calls Tryd.prog 14 #[.slice p n cap, .int .i64 i] w (CodePost w A t) := by
  have HW := Lib.hid hw
  have HR := Lib.hid hr
  clear hw hr
  by_cases hnn : t.isNil = true
  · go_enter Tryd.func14, Tryd.ntmps14
    go_wp2_with fail
    refine (Nil_any hn f w HW.out hi).mono ?_
    rintro e w1 ⟨rfl, hb⟩
    have HN := Lib.hid hnn
    rw [hnn]
    clear hnn
    go_wp2_with fail
    go_ret
    exact ⟨_, rfl, Or.inl ⟨HN.out, rfl⟩, hb⟩
  · have hnn : t.isNil = false := by simpa using hnn
    go_enter Tryd.func14, Tryd.ntmps14
    go_wp2_with fail
    refine (Nil_any hn f w HW.out hi).mono ?_
    rintro e w1 ⟨rfl, hb⟩
    have HN := Lib.hid hnn
    rw [hnn]
    clear hnn
    go_wp2_with fail
    go_loopw [5] (fun v wr => CodeRel w A t v wr) (fun i _ => 12 - (intOf i).toNat)
    case atStart => exact ⟨1, Nat.le_refl _, by decide, rfl, fun j h1 h2 => by omega, hb⟩
    case round =>
      obtain ⟨k, hk1, hk2, rfl, hj, hbr⟩ := hrel
      have HJ := Lib.hid hj
      clear hj hb
      by_cases hlt : k ≤ 11
      · have hc := finds_any HR.out hn f wr k (HW.out.below hbr) hi hk1 hlt
        go_wp2_with fail
        refine hc.mono ?_
        clear hc
        rintro e w2 ⟨he, hb2⟩
        by_cases hh : t.hits 94 (A k) = true
        · rw [hh] at he
          have HH := Lib.hid hh
          clear hh
          subst he
          go_wp2_with fail
          go_ret
          exact ⟨_, rfl, Or.inr (Or.inl ⟨HN.out, k, hk1, hlt, rfl, HH.out, HJ.out⟩), hbr.trans (hb2.mono hbr.size)⟩
        · have hh : t.hits 94 (A k) = false := by simpa using hh
          rw [hh] at he
          have HH := Lib.hid hh
          clear hh
          subst he
          go_wp2_with fail
          go_roundw
          case rel => exact ⟨k + 1, by omega, by omega, by go_num, fun j h1 h2 => by
            rcases Nat.lt_or_ge j k with h | h
            · exact HJ.out j h1 h
            · obtain rfl : j = k := by omega
              exact HH.out, hbr.trans (hb2.mono hbr.size)⟩
          case measure => simp [intOf]; omega
      · obtain rfl : k = 12 := by omega
        go_wp2_with fail
        go_ret
        exact ⟨_, rfl, Or.inr (Or.inr ⟨HN.out, rfl, fun j h1 h2 => HJ.out j h1 (by omega)⟩), hbr⟩

/-- What first finds: the node of the first Fault. -/
def IsFirst (A : Nat → Addr) (nd : Nat → Nd) (i : Nat) (t : Tree) (c : Int) : Prop :=
  (t.first = none ∧ c = -1) ∨
  ∃ k b : Nat, t.first = some b ∧ k ≤ i ∧ c = (k : Int) ∧
    (((nrm k (nd k)).kind = 2 ∧ t.faults = [(b, (nd k).op, (nd k).pl)]) ∨
     ∃ (j : Nat) (t1 : Tree), (nrm k (nd k)).kind = 3 ∧ (nrm k (nd k)).a = (j : Int) ∧ j < k ∧ Fits A nd j t1 ∧ t.faults = (b, (nd k).op, (nd k).pl) :: t1.faults)
def FirstNodePost (w : World) (A : Nat → Addr) (nd : Nat → Nd) (i : Nat) (t : Tree) (e : Ending) (w' : World) : Prop := ∃ c, e = .returned (.int .i64 c) ∧ IsFirst A nd i t c ∧ Below w.heap.size w w'

theorem IsFirst.up {A : Nat → Addr} {nd : Nat → Nd} {i j : Nat} {t u : Tree} {c : Int} (h : IsFirst A nd j t c) (hj : j ≤ i) (e1 : u.first = t.first) (e2 : u.faults = t.faults) : IsFirst A nd i u c := by
  rcases h with ⟨h1, h2⟩ | ⟨k, b, h1, h2, h3, h4⟩
  · exact Or.inl ⟨e1.trans h1, h2⟩
  · exact Or.inr ⟨k, b, e1.trans h1, by omega, h3, by rw [e2]; exact h4⟩

set_option maxHeartbeats 8000000 in
theorem first_node {A : Nat → Addr} {nd : Nat → Nd} {p : Option Addr} {n cap : Nat} (hn : n ≤ 12) {i : Nat} {t : Tree} (f : Fits A nd i t) :
    ∀ w : World, Nodes w p n cap nd → i < n → Calls Tryd.prog 30 #[.slice p n cap, .int .i64 i] w (FirstNodePost w A nd i t) := by
  induction f with
  | @root i h | @other i a h ha =>
    intro w hw hi
    have hc := Norm_as w hw hi hn h rfl rfl
    clear hw h
    go_enter Tryd.func30, Tryd.ntmps30
    go_wp2_with fail
    refine hc.mono ?_
    rintro e w1 ⟨rfl, hb⟩
    clear hc
    go_wp2_with fail
    go_ret
    exact ⟨_, rfl, Or.inl ⟨rfl, rfl⟩, hb.alloc hb.size _⟩
  | @new0 i h hz =>
    intro w hw hi
    have hc := Norm_as w hw hi hn h rfl rfl
    have HW := Lib.hid hw
    have HF := Lib.hid (Fits.new0 (A := A) h hz)
    clear hw h hz
    go_enter Tryd.func30, Tryd.ntmps30
    go_wp2_with fail
    refine hc.mono ?_
    rintro e w1 ⟨rfl, hb⟩
    clear hc
    go_wp2_with fail
    refine (Nil_any hn HF.out _ (HW.out.below (hb.alloc hb.size _)) hi).mono ?_
    rintro e w2 ⟨rfl, hb2⟩
    have hx : Tree.nil.isNil = true := rfl
    rw [hx]
    have HB := Lib.hid ((hb.alloc hb.size (.cells #[.int .i64 2, .int .i64 (nd i).n, .int .i64 (nd i).pl, .int .i64 (nrm i (nd i)).a, .int .i64 (nrm i (nd i)).b, .string (nd i).op] 67)).trans (hb2.mono (hb.alloc hb.size _).size))
    clear hb2 hb hx
    go_wp2_with fail
    go_ret
    exact ⟨_, rfl, Or.inl ⟨rfl, rfl⟩, HB.out⟩
  | @new i b h hz =>
    intro w hw hi
    have hc := Norm_as w hw hi hn h rfl rfl
    have HW := Lib.hid hw
    have HK := Lib.hid h
    have HF := Lib.hid (Fits.new (A := A) (b := b) h hz)
    clear hw h hz
    go_enter Tryd.func30, Tryd.ntmps30
    go_wp2_with fail
    refine hc.mono ?_
    rintro e w1 ⟨rfl, hb⟩
    clear hc
    go_wp2_with fail
    refine (Nil_any hn HF.out _ (HW.out.below (hb.alloc hb.size _)) hi).mono ?_
    rintro e w2 ⟨rfl, hb2⟩
    have hx : (Tree.fault b (nd i).op (nd i).pl (.leaf (A (known (nd i).n)))).isNil = false := rfl
    rw [hx]
    have HB := Lib.hid ((hb.alloc hb.size (.cells #[.int .i64 2, .int .i64 (nd i).n, .int .i64 (nd i).pl, .int .i64 (nrm i (nd i)).a, .int .i64 (nrm i (nd i)).b, .string (nd i).op] 67)).trans (hb2.mono (hb.alloc hb.size _).size))
    clear hb2 hb hx
    go_wp2_with fail
    go_ret
    exact ⟨_, rfl, Or.inr ⟨i, b, rfl, Nat.le_refl _, rfl, Or.inl ⟨HK.out, rfl⟩⟩, HB.out⟩
  | @under0 i j h ha hj f ih =>
    intro w hw hi
    have hc := Norm_as w hw hi hn h ha rfl
    have HW := Lib.hid hw
    have HF := Lib.hid (Fits.under0 (A := A) h ha hj f)
    clear hw h ha f ih
    go_enter Tryd.func30, Tryd.ntmps30
    go_wp2_with fail
    refine hc.mono ?_
    rintro e w1 ⟨rfl, hb⟩
    clear hc
    go_wp2_with fail
    refine (Nil_any hn HF.out _ (HW.out.below (hb.alloc hb.size _)) hi).mono ?_
    rintro e w2 ⟨rfl, hb2⟩
    have hx : Tree.nil.isNil = true := rfl
    rw [hx]
    have HB := Lib.hid ((hb.alloc hb.size (.cells #[.int .i64 3, .int .i64 (nd i).n, .int .i64 (nd i).pl, .int .i64 j, .int .i64 (nrm i (nd i)).b, .string (nd i).op] 67)).trans (hb2.mono (hb.alloc hb.size _).size))
    clear hb2 hb hx
    go_wp2_with fail
    go_ret
    exact ⟨_, rfl, Or.inl ⟨rfl, rfl⟩, HB.out⟩
  | @under i j b t h ha hj f ht ih =>
    intro w hw hi
    have hc := Norm_as w hw hi hn h ha rfl
    have HW := Lib.hid hw
    have HK := Lib.hid (And.intro h (And.intro ha f))
    have HF := Lib.hid (Fits.under (A := A) (b := b) h ha hj f ht)
    clear hw h ha f ih
    go_enter Tryd.func30, Tryd.ntmps30
    go_wp2_with fail
    refine hc.mono ?_
    rintro e w1 ⟨rfl, hb⟩
    clear hc
    go_wp2_with fail
    refine (Nil_any hn HF.out _ (HW.out.below (hb.alloc hb.size _)) hi).mono ?_
    rintro e w2 ⟨rfl, hb2⟩
    have hx : (Tree.fault b (nd i).op (nd i).pl t).isNil = false := rfl
    rw [hx]
    have HB := Lib.hid ((hb.alloc hb.size (.cells #[.int .i64 3, .int .i64 (nd i).n, .int .i64 (nd i).pl, .int .i64 j, .int .i64 (nrm i (nd i)).b, .string (nd i).op] 67)).trans (hb2.mono (hb.alloc hb.size _).size))
    clear hb2 hb hx ht
    go_wp2_with fail
    go_ret
    exact ⟨_, rfl, Or.inr ⟨i, b, rfl, Nat.le_refl _, rfl, Or.inr ⟨j, t, HK.out.1, HK.out.2.1, hj, HK.out.2.2, rfl⟩⟩, HB.out⟩
  | @own i j t h ha hj f ih =>
    intro w hw hi
    have hc := Norm_as w hw hi hn h ha rfl
    have HW := Lib.hid hw
    clear hw h ha f
    go_enter Tryd.func30, Tryd.ntmps30
    go_wp2_with fail
    refine hc.mono ?_
    rintro e w1 ⟨rfl, hb⟩
    go_wp2_with fail
    refine (ih _ (HW.out.below (hb.alloc hb.size _)) (by omega)).mono ?_
    rintro e w2 ⟨c, rfl, hf1, hb2⟩
    have HB := Lib.hid ((hb.alloc hb.size (.cells #[.int .i64 4, .int .i64 (nd i).n, .int .i64 (nd i).pl, .int .i64 j, .int .i64 (nrm i (nd i)).b, .string (nd i).op] 67)).trans (hb2.mono (hb.alloc hb.size _).size))
    have H1 := Lib.hid hf1
    clear hb2 hb ih hc hf1
    go_wp2_with fail
    go_ret
    exact ⟨_, rfl, H1.out.up (by omega) rfl rfl, HB.out⟩
  | @shut i j t h ha hj f ih =>
    intro w hw hi
    have hc := Norm_as w hw hi hn h rfl rfl
    clear hw h
    go_enter Tryd.func30, Tryd.ntmps30
    go_wp2_with fail
    refine hc.mono ?_
    rintro e w1 ⟨rfl, hb⟩
    clear hc
    go_wp2_with fail
    go_ret
    exact ⟨_, rfl, Or.inl ⟨rfl, rfl⟩, hb.alloc hb.size _⟩
  | @both i j k t u h ha hb' hj hk f g ih ig =>
    intro w hw hi
    have hc := Norm_as w hw hi hn h ha hb'
    have HW := Lib.hid hw
    clear hw h ha hb' f g
    go_enter Tryd.func30, Tryd.ntmps30
    go_wp2_with fail
    refine hc.mono ?_
    rintro e w1 ⟨rfl, hb⟩
    go_wp2_with fail
    have hB1 := hb.alloc hb.size (.cells #[.int .i64 6, .int .i64 (nd i).n, .int .i64 (nd i).pl, .int .i64 j, .int .i64 k, .string (nd i).op] 67)
    refine (ih _ (HW.out.below hB1) (by omega)).mono ?_
    rintro e w2 ⟨c, rfl, hf1, hb2⟩
    have hcell : w2.cell? ⟨w1.heap.size, 4, none⟩ = some (.int .i64 k) := (hb2.cell (p := ⟨w1.heap.size, 4, none⟩) (by simp)).trans (by simp)
    have HB := Lib.hid (hB1.trans (hb2.mono hB1.size))
    have H1 := Lib.hid hf1
    clear hb2 hb ih hc hB1
    rcases hf1 with ⟨hn1, rfl⟩ | ⟨k1, b1, hn1, hk1, rfl, _⟩
    · have HN1 := Lib.hid hn1
      clear hn1
      go_wp2_with fail
      refine (ig _ (HW.out.below HB.out) (by omega)).mono ?_
      rintro e w3 ⟨c, rfl, hf2, hb3⟩
      have HB3 := Lib.hid (HB.out.trans (hb3.mono HB.out.size))
      have H2 := Lib.hid hf2
      clear hb3 ig hf2
      go_wp2_with fail
      go_ret
      exact ⟨_, rfl, H2.out.up (by omega) (by simp only [Tree.first]; rw [HN1.out]) (by simp only [Tree.faults]; rw [HN1.out]), HB3.out⟩
    · have HN1 := Lib.hid hn1
      clear hn1 ig
      go_wp2_with fail
      go_ret
      exact ⟨_, rfl, H1.out.up (by omega) (by simp only [Tree.first]; rw [HN1.out]) (by simp only [Tree.faults]; rw [HN1.out]), HB.out⟩
end Go.Proofs.YtmbgfcanchmmpaaDoor
