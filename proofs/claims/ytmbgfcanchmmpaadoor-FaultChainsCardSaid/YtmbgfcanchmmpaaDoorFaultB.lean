/- Package fault by its contracts, second part: the Faults of an error, gathered by fault.all. -/
import Derived.Test.YtmbgfcanchmmpaaDoorFaultA
namespace Go.Proofs.YtmbgfcanchmmpaaDoor
open Go.RowKit Go.Extern.Stop Go.Stop Go.Extern

/-- The Faults of an error, from the outermost on: block, package, place. -/
def Tree.faults : Tree → List (Nat × ByteArray × Int)
  | nil => []
  | leaf _ => []
  | fault b op pl t => (b, op, pl) :: t.faults
  | own t => t.faults
  | shut _ => []
  | both t u => match t.first with
    | some _ => t.faults
    | none => u.faults
def ptrOf (x : Nat × ByteArray × Int) : Value := .pointer (some ⟨x.1, 0, none⟩)

theorem faults_none : ∀ {t : Tree}, t.first = none → t.faults = []
  | .nil, _ => rfl
  | .leaf _, _ => rfl
  | .fault _ _ _ _, h => by cases h
  | .own t, h => faults_none (t := t) h
  | .shut _, _ => rfl
  | .both t u, h => by
    simp only [Tree.first] at h
    simp only [Tree.faults]
    cases ht : t.first with
    | none => rw [ht] at h; exact faults_none (t := u) h
    | some b => rw [ht] at h; cases h
theorem faults_some {w : World} : ∀ {t : Tree} {b : Nat}, t.lies w → t.first = some b →
    ∃ (op : ByteArray) (pl : Int) (t' : Tree), w.heap[b]? = some (.cells #[.string op, .int .i64 pl, t'.val] 48 (0, 0)) ∧ t'.lies w ∧ t.faults = (b, op, pl) :: t'.faults
  | .nil, _, _, h => by cases h
  | .leaf _, _, _, h => by cases h
  | .fault b op pl t, b', hl, h => by
    obtain rfl : b = b' := Option.some.inj h
    exact ⟨op, pl, t, hl.1, hl.2.1, rfl⟩
  | .own t, _, hl, h => faults_some (t := t) hl h
  | .shut _, _, _, h => by cases h
  | .both t u, b, hl, h => by
    simp only [Tree.first] at h
    simp only [Tree.faults]
    cases ht : t.first with
    | none => rw [ht] at h; exact faults_some (t := u) hl.2 h
    | some b' =>
      rw [ht] at h
      obtain rfl : b' = b := Option.some.inj h
      exact faults_some (t := t) hl.1 ht

theorem info44 : (Tryd.prog.info? 44).map (fun i => (i.zero, i.size, i.bytes)) = some (some (.pointer none), 1, 8) := by kernel_rfl

def AllRel (w : World) (t : Tree) (n k : Nat) (v f : Value) (wr : World) : Prop :=
  ∃ (t' : Tree) (pre : List (Nat × ByteArray × Int)), f = firstPtr t' ∧ t'.lies w ∧ pre ++ t'.faults = t.faults ∧ t'.faults.length ≤ k ∧ k ≤ n ∧
    wr.ownsRow w.heap.size 44 1 v pre.length (pre.map ptrOf) ∧ Below w.heap.size w wr
def AllPost (w : World) (t : Tree) (e : Ending) (w' : World) : Prop :=
  ∃ v, e = .returned v ∧ w'.ownsRow w.heap.size 44 1 v t.faults.length (t.faults.map ptrOf) ∧ Below w.heap.size w w'

theorem ownsRow_below {w1 w2 : World} {base : Nat} {e : TypeId} {size : Nat} {v : Value} {n : Nat} {xs : List Value} (hb : Below w1.heap.size w1 w2) (h : w1.ownsRow base e size v n xs) : w2.ownsRow base e size v n xs :=
  h.kept (row := none) ⟨hb.os, hb.tape, hb.output, hb.size, fun k hk _ => hb.block k hk⟩ (by
    cases hv : v.ownBlock with
    | none => exact Or.inl rfl
    | some g => exact Or.inr (by simp))

theorem all_step {w wr w1 : World} {v : Value} {o : Obj} {pre : List (Nat × ByteArray × Int)} (hb : Below w.heap.size w wr) (hown : wr.ownsRow w.heap.size 44 1 v pre.length (pre.map ptrOf))
    (hg : (wr.alloc o).grownBy w1 v.ownBlock) : Below w.heap.size w w1 :=
  (hb.alloc hb.size o).grown hg (by have := hb.size; simp; omega) (fun j hj => (hown.lt j hj).1)

set_option maxHeartbeats 2000000 in
theorem all_any (t : Tree) (w : World) (hl : t.lies w) (hT : TypeVar w) (hn : t.faults.length ≤ 1048576) :
    Calls Tryd.prog 34 #[t.val] w (AllPost w t) := by
  obtain ⟨i0, hi, hz0, hz1, hz2⟩ := info_parts info44
  have HT := Lib.hid hT
  have HL := Lib.hid hl
  clear hT hl
  go_enter Tryd.func34, Tryd.ntmps34
  go_wp2_with (go_at_call 36; refine (first_any t _ HL.out HT.out).mono ?_; rintro e w0 ⟨rfl, hb0⟩)
  go_loopg [3, 4] (t.faults.length) (fun k v f wr => AllRel w t t.faults.length k v f wr)
  case atStart => exact ⟨t, [], rfl, HL.out, rfl, Nat.le_refl _, Nat.le_refl _, World.ownsRow_nil _ _ _ _, hb0⟩
  case round =>
    obtain ⟨t', pre, rfl, hl', hpre, hk, hkn, hown, hb⟩ := hrel
    have HP := Lib.hid hpre
    have hpn : pre.length + t'.faults.length ≤ 1048576 := by
      have := congrArg List.length hpre
      rw [List.length_append] at this
      omega
    clear hpre hb0
    cases hf : t'.first with
    | none =>
      have hp : firstPtr t' = .pointer none := by unfold firstPtr; rw [hf]
      have hq := faults_none hf
      rw [hp]
      have HQ : Hid (pre = t.faults) := by have := HP.out; rw [hq, List.append_nil] at this; exact this
      have HO := Lib.hid hown
      clear hp hq hf hown hl' HP
      go_wp2
      go_ret
      exact ⟨_, rfl, by have := HO.out; rw [HQ.out] at this; exact this, hb⟩
    | some b =>
      have hp : firstPtr t' = .pointer (some ⟨b, 0, none⟩) := by unfold firstPtr; rw [hf]
      obtain ⟨op, pl, t2, hc, hl2, hq⟩ := faults_some hl' hf
      rw [hp]
      have HQ := Lib.hid hq
      have HC := Lib.hid (And.intro hc hl2)
      have hlen : t'.faults.length = t2.faults.length + 1 := by rw [hq]; rfl
      have hpn2 : pre.length + 1 ≤ 1048576 := by omega
      have hk2 : t2.faults.length < gk := by omega
      clear hp hq hf hc hl2 hl' hlen hpn hk
      go_wp2_with (at_builtin; refine wpList_append_own _ rfl _ _ 73 rfl w.heap.size 44 i0 (.pointer none) 1 8 Tryd.underlying73 hi hz0 hz1 hz2 rfl (by decide) _ _ _ rfl (hown.alloc _) ⟨wr.heap.size, 0, none⟩ 1 1 [.pointer (some ⟨b, 0, none⟩)] rfl rfl ?c1 ?c2 ?c3 ?c4 ?c5 ?_)
      case c1 =>
        intro j u hj
        match j, hj with
        | 0, hj => simp at hj; subst hj; simp [Addr.add]
      case c2 => intro u hu; simp at hu; subst hu; rfl
      case c3 => unfold maxLen; omega
      case c4 => omega
      case c5 => have := hb.size; simp; omega
      intro v' w1 hown' hgrow _
      have hB := all_step hb hown hgrow
      have hcell : w1.cell? ⟨b, 2, none⟩ = some t2.val := (hB.cell (p := ⟨b, 2, none⟩) (heap_lt HC.out.1)).trans (by simp [World.cell?, HC.out.1])
      have HO := Lib.hid hown'
      clear hown hgrow hown' hb
      go_wp2_with (go_at_call 36; refine (first_any t2 _ (Tree.lies_below hB (t := t2) HC.out.2) (HT.out.below hB)).mono ?_; rintro e w2 ⟨rfl, hb2⟩)
      go_roundg t2.faults.length
      case rel =>
        refine ⟨t2, pre ++ [(b, op, pl)], rfl, HC.out.2, ?_, Nat.le_refl _, by omega, ?_, hB.trans (hb2.mono hB.size)⟩
        · rw [List.append_assoc]
          have := HP.out
          rw [HQ.out] at this
          exact this
        · have := ownsRow_below hb2 HO.out
          rw [List.map_append, List.length_append]
          exact this
      case measure => exact hk2
end Go.Proofs.YtmbgfcanchmmpaaDoor
