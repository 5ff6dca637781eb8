/- FaultChains, second part: which tree a node stands for, and the document's own functions (edenref01) on it: Nil, finds, Code. -/
import Derived.Test.YtmbgfcanchmmpaaDoorChainsA
import Derived.Test.YtmbgfcanchmmpaaDoorNumbersWalk
namespace Go.Proofs.YtmbgfcanchmmpaaDoor
open Go.RowKit Go.Extern.Stop Go.Stop Go.Extern

/-- The tree t is what node number i stands for. -/
inductive Fits (A : Nat → Addr) (nd : Nat → Nd) : Nat → Tree → Prop where
  | root {i : Nat} (h : (nrm i (nd i)).kind = 0) : Fits A nd i (.leaf (A (known (nd i).n)))
  | other {i : Nat} {a : Addr} (h : (nrm i (nd i)).kind = 1) (ha : ∀ k, k ≤ 11 → a ≠ A k) : Fits A nd i (.leaf a)
  | new0 {i : Nat} (h : (nrm i (nd i)).kind = 2) (hn : (nd i).n = 0) : Fits A nd i .nil
  | new {i b : Nat} (h : (nrm i (nd i)).kind = 2) (hn : (nd i).n ≠ 0) : Fits A nd i (.fault b (nd i).op (nd i).pl (.leaf (A (known (nd i).n))))
  | under0 {i j : Nat} (h : (nrm i (nd i)).kind = 3) (ha : (nrm i (nd i)).a = (j : Int)) (hj : j < i) (f : Fits A nd j .nil) : Fits A nd i .nil
  | under {i j b : Nat} {t : Tree} (h : (nrm i (nd i)).kind = 3) (ha : (nrm i (nd i)).a = (j : Int)) (hj : j < i) (f : Fits A nd j t) (ht : t.isNil = false) : Fits A nd i (.fault b (nd i).op (nd i).pl t)
  | own {i j : Nat} {t : Tree} (h : (nrm i (nd i)).kind = 4) (ha : (nrm i (nd i)).a = (j : Int)) (hj : j < i) (f : Fits A nd j t) : Fits A nd i (.own t)
  | shut {i j : Nat} {t : Tree} (h : (nrm i (nd i)).kind = 5) (ha : (nrm i (nd i)).a = (j : Int)) (hj : j < i) (f : Fits A nd j t) : Fits A nd i (.shut t)
  | both {i j k : Nat} {t u : Tree} (h : (nrm i (nd i)).kind = 6) (ha : (nrm i (nd i)).a = (j : Int)) (hb : (nrm i (nd i)).b = (k : Int)) (hj : j < i) (hk : k < i) (f : Fits A nd j t) (g : Fits A nd k u) : Fits A nd i (.both t u)

theorem Norm_as {p : Option Addr} {n cap i : Nat} {nd : Nat → Nd} {K a b : Int} (w : World) (h : Nodes w p n cap nd) (hi : i < n) (hn : n ≤ 12) (hk : (nrm i (nd i)).kind = K) (ha : (nrm i (nd i)).a = a) (hb : (nrm i (nd i)).b = b) :
    Calls Tryd.prog 28 #[.slice p n cap, .int .i64 i] w fun e w' => e = .returned (.agg #[.int .i64 K, .int .i64 (nd i).n, .int .i64 (nd i).pl, .int .i64 a, .int .i64 b, .string (nd i).op]) ∧ Below w.heap.size w w' := by
  subst hk ha hb
  exact (Norm_any p n cap i nd w h hi hn).mono fun _ _ h => h

def NilPost (w : World) (t : Tree) (e : Ending) (w' : World) : Prop := e = .returned (.bool t.isNil) ∧ Below w.heap.size w w'

set_option maxHeartbeats 4000000 in
theorem Nil_any {A : Nat → Addr} {nd : Nat → Nd} {p : Option Addr} {n cap : Nat} (hn : n ≤ 12) {i : Nat} {t : Tree} (f : Fits A nd i t) :
    ∀ w : World, Nodes w p n cap nd → i < n → Calls Tryd.prog 12 #[.slice p n cap, .int .i64 i] w (NilPost w t) := by
  induction f with
  | @root i h | @other i a h ha =>
    intro w hw hi
    have hc := Norm_as w hw hi hn h rfl rfl
    clear hw h
    go_enter Tryd.func12, Tryd.ntmps12
    go_wp2_with fail
    refine hc.mono ?_
    rintro e w1 ⟨rfl, hb⟩
    go_wp2_with fail
    go_ret
    exact ⟨rfl, hb.alloc hb.size _⟩
  | @new0 i h hz =>
    intro w hw hi
    have hc := Norm_as w hw hi hn h rfl rfl
    rw [hz] at hc
    clear hw h hz
    go_enter Tryd.func12, Tryd.ntmps12
    go_wp2_with fail
    refine hc.mono ?_
    rintro e w1 ⟨rfl, hb⟩
    go_wp2_with fail
    go_ret
    exact ⟨rfl, hb.alloc hb.size _⟩
  | @new i b h hz =>
    intro w hw hi
    have hc := Norm_as w hw hi hn h rfl rfl
    have hz2 : ((nd i).n == 0) = false := by simpa using hz
    clear hw h hz
    go_enter Tryd.func12, Tryd.ntmps12
    go_wp2_with fail
    refine hc.mono ?_
    rintro e w1 ⟨rfl, hb⟩
    go_wp2_with fail
    go_ret
    exact ⟨rfl, hb.alloc hb.size _⟩
  | @under0 i j h ha hj f ih =>
    intro w hw hi
    have hc := Norm_as w hw hi hn h ha rfl
    have HW := Lib.hid hw
    clear hw h ha f
    go_enter Tryd.func12, Tryd.ntmps12
    go_wp2_with fail
    refine hc.mono ?_
    rintro e w1 ⟨rfl, hb⟩
    go_wp2_with fail
    refine (ih _ (HW.out.below (hb.alloc hb.size _)) (by omega)).mono ?_
    rintro e w2 ⟨rfl, hb2⟩
    have HB := Lib.hid ((hb.alloc hb.size (.cells #[.int .i64 3, .int .i64 (nd i).n, .int .i64 (nd i).pl, .int .i64 j, .int .i64 (nrm i (nd i)).b, .string (nd i).op] 67)).trans (hb2.mono (hb.alloc hb.size _).size))
    clear hb2 hb ih hc
    go_wp2_with fail
    go_ret
    exact ⟨rfl, HB.out⟩
  | @under i j b t h ha hj f ht ih =>
    intro w hw hi
    have hc := Norm_as w hw hi hn h ha rfl
    have HW := Lib.hid hw
    clear hw h ha f
    go_enter Tryd.func12, Tryd.ntmps12
    go_wp2_with fail
    refine hc.mono ?_
    rintro e w1 ⟨rfl, hb⟩
    go_wp2_with fail
    refine (ih _ (HW.out.below (hb.alloc hb.size _)) (by omega)).mono ?_
    rintro e w2 ⟨rfl, hb2⟩
    rw [ht]
    have HB := Lib.hid ((hb.alloc hb.size (.cells #[.int .i64 3, .int .i64 (nd i).n, .int .i64 (nd i).pl, .int .i64 j, .int .i64 (nrm i (nd i)).b, .string (nd i).op] 67)).trans (hb2.mono (hb.alloc hb.size _).size))
    clear hb2 hb ih hc ht
    go_wp2_with fail
    go_ret
    exact ⟨rfl, HB.out⟩
  | @own i j t h ha hj f ih | @shut i j t h ha hj f ih | @both i j k t u h ha hb hj hk f g ih ig =>
    intro w hw hi
    have hc := Norm_as w hw hi hn h rfl rfl
    clear hw h
    go_enter Tryd.func12, Tryd.ntmps12
    go_wp2_with fail
    refine hc.mono ?_
    rintro e w1 ⟨rfl, hb⟩
    go_wp2_with fail
    go_ret
    exact ⟨rfl, hb.alloc hb.size _⟩
end Go.Proofs.YtmbgfcanchmmpaaDoor
