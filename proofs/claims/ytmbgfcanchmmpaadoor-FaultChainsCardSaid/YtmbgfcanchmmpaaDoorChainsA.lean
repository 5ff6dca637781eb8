/- FaultChains, first part: the list of nodes in memory, and the node as it is taken (edenref01.Norm). -/
import Derived.Test.YtmbgfcanchmmpaaDoorFaultL
import Derived.IntWalk
namespace Go.Proofs.YtmbgfcanchmmpaaDoor
open Go.RowKit Go.Extern.Stop Go.Stop Go.Extern

/-- A node's fields. -/
structure Nd where
  kind : Int
  n : Int
  pl : Int
  a : Int
  b : Int
  op : ByteArray
def InI (x : Int) : Prop := -9223372036854775808 ≤ x ∧ x ≤ 9223372036854775807
/-- Block b holds, from place o on, the node's six cells. -/
def NdAt (w : World) (b o : Nat) (x : Nd) : Prop :=
  w.cell? ⟨b, o, none⟩ = some (.int .i64 x.kind) ∧ w.cell? ⟨b, o + 1, none⟩ = some (.int .i64 x.n) ∧ w.cell? ⟨b, o + 2, none⟩ = some (.int .i64 x.pl) ∧
  w.cell? ⟨b, o + 3, none⟩ = some (.int .i64 x.a) ∧ w.cell? ⟨b, o + 4, none⟩ = some (.int .i64 x.b) ∧ w.cell? ⟨b, o + 5, none⟩ = some (.string x.op)
theorem NdAt.below {w w' : World} {b o : Nat} {x : Nd} (hb : Below w.heap.size w w') (hl : b < w.heap.size) (h : NdAt w b o x) : NdAt w' b o x :=
  ⟨(hb.cell (p := ⟨b, o, none⟩) hl).trans h.1, (hb.cell (p := ⟨b, o + 1, none⟩) hl).trans h.2.1, (hb.cell (p := ⟨b, o + 2, none⟩) hl).trans h.2.2.1, (hb.cell (p := ⟨b, o + 3, none⟩) hl).trans h.2.2.2.1, (hb.cell (p := ⟨b, o + 4, none⟩) hl).trans h.2.2.2.2.1, (hb.cell (p := ⟨b, o + 5, none⟩) hl).trans h.2.2.2.2.2⟩
/-- A list of nodes that is only read: its first n elements. -/
def Nodes (w : World) (p : Option Addr) (n cap : Nat) (nd : Nat → Nd) : Prop :=
  n ≤ cap ∧ ∀ j, j < n → ∃ b off, p = some ⟨b, off, none⟩ ∧ b < w.heap.size ∧ NdAt w b (off + j * 6) (nd j) ∧ InI (nd j).kind ∧ InI (nd j).a ∧ InI (nd j).b
theorem Nodes.below {w w' : World} {p : Option Addr} {n cap : Nat} {nd : Nat → Nd} (hb : Below w.heap.size w w') (h : Nodes w p n cap nd) : Nodes w' p n cap nd :=
  ⟨h.1, fun j hj => by
    obtain ⟨b, off, h1, h2, h3, h4⟩ := h.2 j hj
    exact ⟨b, off, h1, Nat.lt_of_lt_of_le h2 hb.size, h3.below hb h2, h4⟩⟩
theorem Nodes.less {w : World} {p : Option Addr} {n m cap : Nat} {nd : Nat → Nd} (h : Nodes w p n cap nd) (hm : m ≤ n) : Nodes w p m cap nd :=
  ⟨Nat.le_trans hm h.1, fun j hj => h.2 j (Nat.lt_of_lt_of_le hj hm)⟩

def NdVal (x : Nd) : Value := .agg #[.int .i64 x.kind, .int .i64 x.n, .int .i64 x.pl, .int .i64 x.a, .int .i64 x.b, .string x.op]

theorem tmod_bd (x : Int) (m : Nat) (hm : 0 < m) : -(m : Int) < x.tmod m ∧ x.tmod m < m := by
  have h1 := Int.tmod_lt_of_pos x (show (0 : Int) < m by omega)
  have h2 := Int.lt_tmod_of_pos x (show (0 : Int) < m by omega)
  exact ⟨h2, h1⟩

/-- The node as it is taken. -/
def rest7 (k : Int) : Int := (wrap64 (k.tmod 7 + 7)).tmod 7
def nrmK (i : Nat) (k : Int) : Int := if 2 < rest7 k ∧ i = 0 then 1 else rest7 k
def nrmA (i : Nat) (a : Int) : Int := if i = 0 then a else a.tmod i % i
def nrm (i : Nat) (x : Nd) : Nd := ⟨nrmK i x.kind, x.n, x.pl, nrmA i x.a, nrmA i x.b, x.op⟩
theorem rest7_bd (k : Int) : 0 ≤ rest7 k ∧ rest7 k < 7 := by
  have t1 := Int.tmod_lt_of_pos k (show (0 : Int) < 7 by decide)
  have t0 := Int.lt_tmod_of_pos k (show (0 : Int) < 7 by decide)
  have e : wrap64 (k.tmod 7 + 7) = k.tmod 7 + 7 := IntWalk.wrap64_in _ (by constructor <;> omega)
  unfold rest7
  rw [e]
  exact ⟨Int.tmod_nonneg _ (by omega), Int.tmod_lt_of_pos _ (by decide)⟩
theorem nrmK_bd (i : Nat) (k : Int) : 0 ≤ nrmK i k ∧ nrmK i k < 7 ∧ (i = 0 → nrmK i k ≤ 2) := by
  have := rest7_bd k
  unfold nrmK
  split <;> refine ⟨by omega, by omega, fun h => ?_⟩ <;> omega
theorem nrmA_bd (i : Nat) (a : Int) (hi : 0 < i) : ∃ j : Nat, nrmA i a = j ∧ j < i := by
  have h1 := Int.emod_nonneg (a.tmod i) (show (i : Int) ≠ 0 by omega)
  have h2 := Int.emod_lt_of_pos (a.tmod i) (show (0 : Int) < i by omega)
  unfold nrmA
  rw [if_neg (by omega)]
  exact ⟨(a.tmod i % i).toNat, by omega, by omega⟩

def NormPost (w : World) (y : Nd) (e : Ending) (w' : World) : Prop := e = .returned (NdVal y) ∧ Below w.heap.size w w'

set_option maxRecDepth 100000 in
set_option maxHeartbeats 4000000 in
theorem Norm_any (p : Option Addr) (n cap i : Nat) (nd : Nat → Nd) (w : World) (h : Nodes w p n cap nd) (hi : i < n) (hn : n ≤ 12) :
    Calls Tryd.prog 28 #[.slice p n cap, .int .i64 i] w (NormPost w (nrm i (nd i))) := by
  obtain ⟨b, off, rfl, hb, ⟨c0, c1, c2, c3, c4, c5⟩, hk, ha, hbb⟩ := h.2 i hi
  unfold InI at hk ha hbb
  clear h
  have hr : (wrap64 ((nd i).kind.tmod 7 + 7)).tmod 7 = rest7 (nd i).kind := rfl
  by_cases h0 : i = 0
  · subst h0
    simp only [Nat.zero_mul, Nat.add_zero] at c0 c1 c2 c3 c4 c5
    by_cases h2 : 2 < (wrap64 ((nd 0).kind.tmod 7 + 7)).tmod 7
    · have e : NdVal (nrm 0 (nd 0)) = .agg #[.int .i64 1, .int .i64 (nd 0).n, .int .i64 (nd 0).pl, .int .i64 (nd 0).a, .int .i64 (nd 0).b, .string (nd 0).op] := by
        unfold NdVal nrm nrmK nrmA
        rw [← hr]
        simp [h2]
      have E := Lib.hid e
      clear e hr hk ha hbb
      go_enter Tryd.func28, Tryd.ntmps28
      go_wp2
      exact bodyPost_ret (v := .agg #[.int .i64 1, .int .i64 (nd 0).n, .int .i64 (nd 0).pl, .int .i64 (nd 0).a, .int .i64 (nd 0).b, .string (nd 0).op]) (by simp [results, Tryd.results28, go_sem]) rfl ⟨by rw [E.out], ((Below.refl _ _).alloc (Nat.le_refl _) _).alloc (by simp) _⟩
    · have e : NdVal (nrm 0 (nd 0)) = .agg #[.int .i64 ((wrap64 ((nd 0).kind.tmod 7 + 7)).tmod 7), .int .i64 (nd 0).n, .int .i64 (nd 0).pl, .int .i64 (nd 0).a, .int .i64 (nd 0).b, .string (nd 0).op] := by
        unfold NdVal nrm nrmK nrmA
        rw [← hr]
        simp [h2]
      have E := Lib.hid e
      clear e hr hk ha hbb
      go_enter Tryd.func28, Tryd.ntmps28
      go_wp2
      exact bodyPost_ret (v := .agg #[.int .i64 ((wrap64 ((nd 0).kind.tmod 7 + 7)).tmod 7), .int .i64 (nd 0).n, .int .i64 (nd 0).pl, .int .i64 (nd 0).a, .int .i64 (nd 0).b, .string (nd 0).op]) (by simp [results, Tryd.results28, go_sem]) rfl ⟨by rw [E.out], ((Below.refl _ _).alloc (Nat.le_refl _) _).alloc (by simp) _⟩
  · have t2 := tmod_bd (nd i).a i (by omega)
    have t3 := tmod_bd (nd i).b i (by omega)
    have e : NdVal (nrm i (nd i)) = .agg #[.int .i64 ((wrap64 ((nd i).kind.tmod 7 + 7)).tmod 7), .int .i64 (nd i).n, .int .i64 (nd i).pl, .int .i64 ((nd i).a.tmod i % i), .int .i64 ((nd i).b.tmod i % i), .string (nd i).op] := by
      unfold NdVal nrm nrmK nrmA
      rw [← hr]
      simp [h0]
    have E := Lib.hid e
    have hi0 : 0 < i := by omega
    clear e hr
    by_cases h2 : 2 < (wrap64 ((nd i).kind.tmod 7 + 7)).tmod 7
    all_goals
      go_enter Tryd.func28, Tryd.ntmps28
      go_wp2
      exact bodyPost_ret (v := .agg #[.int .i64 ((wrap64 ((nd i).kind.tmod 7 + 7)).tmod 7), .int .i64 (nd i).n, .int .i64 (nd i).pl, .int .i64 ((nd i).a.tmod i % i), .int .i64 ((nd i).b.tmod i % i), .string (nd i).op]) (by simp [results, Tryd.results28, go_sem]) rfl ⟨by rw [E.out], ((Below.refl _ _).alloc (Nat.le_refl _) _).alloc (by simp) _⟩
end Go.Proofs.YtmbgfcanchmmpaaDoor
