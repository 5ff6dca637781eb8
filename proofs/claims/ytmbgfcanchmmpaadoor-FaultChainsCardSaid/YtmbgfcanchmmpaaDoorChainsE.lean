/- FaultChains, fifth part: the document's own list of the Faults of a node's tree. -/
import Derived.Test.YtmbgfcanchmmpaaDoorChainsD
namespace Go.Proofs.YtmbgfcanchmmpaaDoor
open Go.RowKit Go.Extern.Stop Go.Stop Go.Extern

theorem fits_len {A : Nat → Addr} {nd : Nat → Nd} {i : Nat} {t : Tree} (f : Fits A nd i t) : t.faults.length ≤ i + 1 := by
  induction f with
  | root h => simp [Tree.faults]
  | other h ha => simp [Tree.faults]
  | new0 h hz => simp [Tree.faults]
  | new h hz => simp [Tree.faults]
  | under0 h ha hj f ih => simp [Tree.faults]
  | under h ha hj f ht ih => simp only [Tree.faults, List.length_cons]; omega
  | own h ha hj f ih => simp only [Tree.faults]; omega
  | shut h ha hj f ih => simp [Tree.faults]
  | @both i j k t u h ha hb hj hk f g ih ig =>
    simp only [Tree.faults]
    cases t.first with
    | none => simp only; omega
    | some b => simp only; omega

theorem info41 : (Tryd.prog.info? 41).map (fun i => (i.zero, i.size, i.bytes)) = some (some (.agg #[.string ⟨#[]⟩, .int .i64 0]), 2, 24) := by kernel_rfl
def pair2 (x : Nat × ByteArray × Int) : List Value := [.string x.2.1, .int .i64 x.2.2]
def cells2 (l : List (Nat × ByteArray × Int)) : List Value := l.flatMap pair2
theorem cells2_snoc (l : List (Nat × ByteArray × Int)) (x : Nat × ByteArray × Int) : cells2 (l ++ [x]) = cells2 l ++ pair2 x := by simp [cells2]

def FaultsPost (w : World) (t : Tree) (e : Ending) (w' : World) : Prop :=
  ∃ v, e = .returned v ∧ w'.ownsRow w.heap.size 41 2 v t.faults.length (cells2 t.faults) ∧ Below w.heap.size w w'
def FaultsRel (w : World) (A : Nat → Addr) (nd : Nat → Nd) (n : Nat) (t : Tree) (v1 v5 : Value) (wr : World) : Prop :=
  ∃ (i : Nat) (t' : Tree) (pre : List (Nat × ByteArray × Int)), v1 = .int .i64 i ∧ i < n ∧ Fits A nd i t' ∧ pre ++ t'.faults = t.faults ∧
    wr.ownsRow w.heap.size 41 2 v5 pre.length (cells2 pre) ∧ Below w.heap.size w wr

theorem two_new (w : World) (x y : Value) (t : TypeId) : ∀ j u, [x, y][j]? = some u → (w.alloc (.cells #[x, y] t)).cell? ((⟨w.heap.size, 0, none⟩ : Addr).add j) = some u := by
  intro j u hj
  match j, hj with
  | 0, hj => simp at hj; subst hj; simp [Addr.add]
  | 1, hj => simp at hj; subst hj; simp [Addr.add]

set_option maxRecDepth 100000 in
set_option maxHeartbeats 8000000 in
theorem refFaults_any {A : Nat → Addr} {nd : Nat → Nd} {p : Option Addr} {n cap : Nat} (hn : n ≤ 12) {i : Nat} {t : Tree} (f : Fits A nd i t) (w : World) (hw : Nodes w p n cap nd) (hi : i < n) :
    Calls Tryd.prog 11 #[.slice p n cap, .int .i64 i] w (FaultsPost w t) := by
  obtain ⟨i0, hii, hz0, hz1, hz2⟩ := info_parts info41
  have hlen := fits_len f
  have hlen2 : t.faults.length ≤ 12 := by omega
  have HW := Lib.hid hw
  clear hw hlen
  go_enter Tryd.func11, Tryd.ntmps11
  go_wp2_with fail
  go_loopw [1, 5] (fun v1 v5 wr => FaultsRel w A nd n t v1 v5 wr) (fun v _ _ => (intOf v).toNat)
  case atStart => exact ⟨i, t, [], rfl, hi, f, rfl, World.ownsRow_nil _ _ _ _, Below.refl _ _⟩
  case round =>
    obtain ⟨i', t', pre, rfl, hi', f', hpre, hown, hb⟩ := hrel
    have HP := Lib.hid hpre
    have hpl : pre.length + t'.faults.length ≤ 12 := by
      have := congrArg List.length hpre
      rw [List.length_append] at this
      omega
    clear hpre
    go_wp2_with fail
    refine (first_node hn f' wr (HW.out.below hb) hi').mono ?_
    rintro e w1 ⟨c, rfl, hf1, hb1⟩
    have hB1 := hb.trans (hb1.mono hb.size)
    have hown1 := ownsRow_below hb1 hown
    clear hown hb1 hb
    rcases hf1 with ⟨hn1, rfl⟩ | ⟨k, b, hn1, hk, rfl, hrest⟩
    · have HQ : Hid (pre = t.faults) := by have := HP.out; rw [faults_none hn1, List.append_nil] at this; exact this
      have HO := Lib.hid (And.intro hown1 hB1)
      clear hn1 hown1 hB1 HP
      go_wp2_with fail
      go_ret
      exact ⟨_, rfl, by have := HO.out.1; rw [HQ.out] at this; exact this, HO.out.2⟩
    · have hkn : k < n := by omega
      rcases hrest with ⟨hk2, hfl⟩ | ⟨j, t1, hk3, hka, hj, f1, hfl⟩
      · have hl1 : pre.length + 1 ≤ 12 := by rw [hfl] at hpl; simpa using hpl
        have HQ : Hid (pre ++ [(b, (nd k).op, (nd k).pl)] = t.faults) := by have := HP.out; rw [hfl] at this; exact this
        have hc := Norm_as w1 (HW.out.below hB1) hkn hn hk2 rfl rfl
        clear hfl hk2 hn1 hpl HP
        go_wp2_with fail
        refine hc.mono ?_
        clear hc
        rintro e w2 ⟨rfl, hb2⟩
        have hB2 := hB1.trans (hb2.mono hB1.size)
        have hown2 := ownsRow_below hb2 hown1
        have hrow : ∀ g, u5.ownBlock = some g → g < w2.heap.size := fun g hg => (hown2.lt g hg).2
        clear hB1 hown1 hb2
        go_wp2_with (at_builtin; refine wpList_append_own _ rfl _ _ 29 rfl w.heap.size 41 i0 (.agg #[.string ⟨#[]⟩, .int .i64 0]) 2 24 Tryd.underlying29 hii hz0 hz1 hz2 rfl (by decide) _ _ _ rfl ((hown2.alloc _).alloc _) ⟨w2.heap.size + 1, 0, none⟩ 1 1 [.string (nd k).op, .int .i64 (nd k).pl] rfl rfl ?c1 ?c2 ?c3 ?c4 ?c5 ?_)
        case c1 => intro q u hq; have := two_new (w2.alloc (.cells #[.int .i64 2, .int .i64 (nd k).n, .int .i64 (nd k).pl, .int .i64 (nrm k (nd k)).a, .int .i64 (nrm k (nd k)).b, .string (nd k).op] 67)) (.string (nd k).op) (.int .i64 (nd k).pl) 41 q u hq; simpa using this
        case c2 => intro u hu; simp at hu; rcases hu with rfl | rfl <;> rfl
        case c3 => unfold maxLen; omega
        case c4 => omega
        case c5 => have := hB2.size; simp; omega
        intro v' w3 hown3 hgrow _
        have hck : w3.cell? ⟨w2.heap.size, 0, none⟩ = some (.int .i64 2) := hgrow.cell (by rw [World.cell?_alloc_lt _ _ ⟨w2.heap.size, 0, none⟩ (by simp)]; simp) (fun h => by have := hrow _ h.symm; simp at this)
        have hB3 : Below w.heap.size w w3 := ((hB2.alloc hB2.size (.cells #[.int .i64 2, .int .i64 (nd k).n, .int .i64 (nd k).pl, .int .i64 (nrm k (nd k)).a, .int .i64 (nrm k (nd k)).b, .string (nd k).op] 67)).alloc (by have := hB2.size; simp; omega) _).grown hgrow (by have := hB2.size; simp; omega) (fun g hg => (hown2.lt g hg).1)
        have HO := Lib.hid (And.intro hown3 hB3)
        clear hown3 hB3 hgrow hown2 hB2 hrow
        go_wp2_with fail
        go_ret
        exact ⟨_, rfl, by have := HO.out.1; rw [← HQ.out, cells2_snoc, List.length_append]; exact this, HO.out.2⟩
      · have hl1 : pre.length + 1 ≤ 12 := by rw [hfl, List.length_cons] at hpl; omega
        have HQ : Hid ((pre ++ [(b, (nd k).op, (nd k).pl)]) ++ t1.faults = t.faults) := by have := HP.out; rw [hfl] at this; rw [List.append_assoc]; exact this
        have hc := Norm_as w1 (HW.out.below hB1) hkn hn hk3 hka rfl
        clear hfl hk3 hka hn1 hpl HP
        go_wp2_with fail
        refine hc.mono ?_
        clear hc
        rintro e w2 ⟨rfl, hb2⟩
        have hB2 := hB1.trans (hb2.mono hB1.size)
        have hown2 := ownsRow_below hb2 hown1
        have hrow : ∀ g, u5.ownBlock = some g → g < w2.heap.size := fun g hg => (hown2.lt g hg).2
        clear hB1 hown1 hb2
        go_wp2_with (at_builtin; refine wpList_append_own _ rfl _ _ 29 rfl w.heap.size 41 i0 (.agg #[.string ⟨#[]⟩, .int .i64 0]) 2 24 Tryd.underlying29 hii hz0 hz1 hz2 rfl (by decide) _ _ _ rfl ((hown2.alloc _).alloc _) ⟨w2.heap.size + 1, 0, none⟩ 1 1 [.string (nd k).op, .int .i64 (nd k).pl] rfl rfl ?d1 ?d2 ?d3 ?d4 ?d5 ?_)
        case d1 => intro q u hq; have := two_new (w2.alloc (.cells #[.int .i64 3, .int .i64 (nd k).n, .int .i64 (nd k).pl, .int .i64 j, .int .i64 (nrm k (nd k)).b, .string (nd k).op] 67)) (.string (nd k).op) (.int .i64 (nd k).pl) 41 q u hq; simpa using this
        case d2 => intro u hu; simp at hu; rcases hu with rfl | rfl <;> rfl
        case d3 => unfold maxLen; omega
        case d4 => omega
        case d5 => have := hB2.size; simp; omega
        intro v' w3 hown3 hgrow _
        have hck : w3.cell? ⟨w2.heap.size, 0, none⟩ = some (.int .i64 3) := hgrow.cell (by rw [World.cell?_alloc_lt _ _ ⟨w2.heap.size, 0, none⟩ (by simp)]; simp) (fun h => by have := hrow _ h.symm; simp at this)
        have hca : w3.cell? ⟨w2.heap.size, 3, none⟩ = some (.int .i64 j) := hgrow.cell (by rw [World.cell?_alloc_lt _ _ ⟨w2.heap.size, 3, none⟩ (by simp)]; simp) (fun h => by have := hrow _ h.symm; simp at this)
        have hB3 : Below w.heap.size w w3 := ((hB2.alloc hB2.size (.cells #[.int .i64 3, .int .i64 (nd k).n, .int .i64 (nd k).pl, .int .i64 j, .int .i64 (nrm k (nd k)).b, .string (nd k).op] 67)).alloc (by have := hB2.size; simp; omega) _).grown hgrow (by have := hB2.size; simp; omega) (fun g hg => (hown2.lt g hg).1)
        have HO := Lib.hid (And.intro hown3 hB3)
        clear hown3 hB3 hgrow hown2 hB2 hrow
        go_wp2_with fail
        go_roundw
        case rel => exact ⟨j, t1, pre ++ [(b, (nd k).op, (nd k).pl)], rfl, by omega, f1, HQ.out, by have := HO.out.1; rw [cells2_snoc, List.length_append]; exact this, HO.out.2⟩
        case measure => simp [intOf]; omega
end Go.Proofs.YtmbgfcanchmmpaaDoor
