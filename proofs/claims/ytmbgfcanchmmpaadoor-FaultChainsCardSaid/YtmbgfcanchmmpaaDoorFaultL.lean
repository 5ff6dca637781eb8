/- What the laws of layer 1 share: the number of a chain of Faults; the fixed answers that each law asks first. -/
import Derived.Test.YtmbgfcanchmmpaaDoorFaultD
namespace Go.Proofs.YtmbgfcanchmmpaaDoor
open Go.RowKit Go.Extern.Stop Go.Stop Go.Extern

/-- The tree ends in api's error number m (0: Unknown), and in no other. -/
def Ends (A : Nat → Addr) (m : Nat) (t : Tree) : Prop := t.isNil = false ∧ ∀ j, 1 ≤ j → j ≤ 11 → t.hits 94 (A j) = decide (j = m)
def codeNum (m : Nat) : Int := if m = 0 then 99 else m

theorem Ends.code {A : Nat → Addr} {m : Nat} {t : Tree} {c : Int} (hm : m ≤ 11) (h : Ends A m t) (hc : IsCode A t c) : c = codeNum m := by
  obtain ⟨hn, h⟩ := h
  unfold codeNum
  rcases hc with ⟨h1, _⟩ | ⟨_, k, hk1, hk2, rfl, hh, hj⟩ | ⟨_, rfl, hj⟩
  · rw [hn] at h1; cases h1
  · rw [h k hk1 hk2] at hh
    obtain rfl := of_decide_eq_true hh
    rw [if_neg (by omega)]
  · rcases Nat.eq_zero_or_pos m with h0 | h0
    · rw [if_pos h0]
    · have := hj m h0 hm
      rw [h m h0 hm] at this
      exact absurd rfl (of_decide_eq_false this)
theorem Ends.leaf {w : World} {A : Nat → Addr} (hr : Roots w A) {m : Nat} (hm : m ≤ 11) : Ends A m (.leaf (A m)) :=
  ⟨rfl, fun j h1 h2 => by
    simp only [Tree.hits]
    by_cases h : j = m
    · subst h; simp
    · have : A m ≠ A j := fun e => h (hr.apart _ _ hm h2 e).symm
      simp [h, this]⟩
theorem Ends.fault {A : Nat → Addr} {m b : Nat} {op : ByteArray} {pl : Int} {t : Tree} (h : Ends A m t) : Ends A m (.fault b op pl t) :=
  ⟨rfl, fun j h1 h2 => by
    simp only [Tree.hits]
    rw [h.2 j h1 h2]
    simp⟩

/-- New's answer as a tree. -/
def NewPost (w : World) (A : Nat → Addr) (op : ByteArray) (pl n : Int) (e : Ending) (w' : World) : Prop :=
  ∃ t : Tree, e = .returned t.val ∧ t.lies w' ∧ Ends A (known n) t ∧ t.faults = [(w.heap.size, op, pl)] ∧ Below w.heap.size w w'
theorem new_tree (op : ByteArray) (pl n : Int) (w : World) (A : Nat → Addr) (hr : Roots w A) (hn : n ≠ 0) :
    Calls Tryd.prog 19 #[.string op, .int .i64 pl, .int .i64 n] w (NewPost w A op pl n) :=
  (new_any op pl n w A hr hn).mono fun _ _ ⟨he, hb, _, hl⟩ => ⟨_, he, hl, (Ends.leaf hr (known_le n)).fault, rfl, hb⟩
/-- Under's answer as a tree. -/
def UnderPost (w : World) (A : Nat → Addr) (m : Nat) (op : ByteArray) (pl : Int) (l : List (Nat × ByteArray × Int)) (e : Ending) (w' : World) : Prop :=
  ∃ t : Tree, e = .returned t.val ∧ t.lies w' ∧ Ends A m t ∧ t.faults = (w.heap.size, op, pl) :: l ∧ Below w.heap.size w w'
theorem under_tree (op : ByteArray) (pl : Int) (t : Tree) (w : World) (A : Nat → Addr) (m : Nat) (hl : t.lies w) (he : Ends A m t) :
    Calls Tryd.prog 24 #[.string op, .int .i64 pl, t.val] w (UnderPost w A m op pl t.faults) :=
  (under_any op pl t w hl he.1).mono fun _ _ ⟨e1, hb, _, hl⟩ => ⟨_, e1, hl, he.fault, rfl, hb⟩

theorem neq_isNil (t : Tree) (w : World) : (binOp .neq 28 t.val .nilIface).run Tryd.prog w = .ok (.bool (!t.isNil)) w := by
  cases t <;> kernel_rfl
theorem guard_neq (t : Tree) (n : Nat) (w : World) : (eqGuard .neq 28 (.tmp n) (.const .nilIface) t.val .nilIface).run Tryd.prog w = .ok () w := by
  cases t <;> kernel_rfl

def AwakePost (w : World) (e : Ending) (w' : World) : Prop := e = .returned (.bool true) ∧ Below w.heap.size w w'

set_option maxHeartbeats 2000000 in
theorem awake_any (w : World) (A : Nat → Addr) (hr : Roots w A) (hT : TypeVar w) :
    Calls Tryd.prog 8 #[] w (AwakePost w) := by
  have HR := Lib.hid hr
  have HT := Lib.hid hT
  clear hr hT
  go_enter Tryd.func8, Tryd.ntmps8
  go_wp2_with fail
  refine (new_tree _ _ _ _ A HR.out (by decide)).mono ?_
  rintro e w1 ⟨t1, rfl, hl1, he1, hf1, hb1⟩
  have HE1 := Lib.hid (And.intro hl1 he1)
  have HF1 := Lib.hid hf1
  clear hl1 he1 hf1
  go_wp2_with fail
  refine (under_tree _ _ t1 _ A _ HE1.out.1 HE1.out.2).mono ?_
  rintro e w2 ⟨t2, rfl, hl2, he2, hf2, hb2⟩
  rw [HF1.out] at hf2
  have hB2 : Below w.heap.size w w2 := hb1.trans (hb2.mono hb1.size)
  have HH := Lib.hid (And.intro hB2 (And.intro hl2 (And.intro he2 hf2)))
  have hnn : t2.isNil = false := he2.1
  have hn1 := neq_isNil t2
  have hn2 := guard_neq t2
  clear hb1 hb2 hl2 he2 hf2 hB2 HE1 HF1
  go_wp2_with fail
  obtain ⟨hB2, hl2, he2, hf2⟩ := HH.out
  refine (inner_any t2 _ hl2 (HT.out.below hB2) (by rw [hf2]; simp)).mono ?_
  rintro e w3 ⟨rfl, hb3⟩
  have hx : t2.faults.getLast? = some (w.heap.size, ⟨#[114, 117, 108, 101]⟩, 2) := by rw [hf2]; rfl
  rw [hx]
  have hv : tellOf (some (w.heap.size, ⟨#[114, 117, 108, 101]⟩, 2)) = .tuple #[.string ⟨#[114, 117, 108, 101]⟩, .int .i64 2, .bool true] := rfl
  rw [hv]
  clear hv hx hB2 hl2 he2 hf2
  go_wp2_with fail
  obtain ⟨hB2, hl2, he2, hf2⟩ := HH.out
  refine (code_any t2 _ A (Tree.lies_below hb3 (t := t2) hl2) ((HR.out.below hB2).below hb3)).mono ?_
  rintro e w4 ⟨c, rfl, hc, hb4⟩
  obtain rfl : c = 1 := he2.code (by decide) hc
  clear hB2 hl2 he2 hf2 hc
  go_wp2_with fail
  obtain ⟨hB2, hl2, he2, hf2⟩ := HH.out
  have hB34 : Below w2.heap.size w2 w4 := hb3.trans (hb4.mono hb3.size)
  refine (deep_any t2 _ (Tree.lies_below hB34 (t := t2) hl2) ((HT.out.below hB2).below hB34) (by rw [hf2]; simp)).mono ?_
  rintro e w5 ⟨rfl, hb5⟩
  have hx : t2.faults.length = 2 := by rw [hf2]; rfl
  rw [hx]
  have HB := Lib.hid (hB2.trans ((hB34.trans (hb5.mono hB34.size)).mono hB2.size))
  clear hx hB2 hl2 he2 hf2 HH hB34 hb3 hb4 hb5
  go_wp2_with fail
  go_ret
  exact ⟨rfl, HB.out⟩
end Go.Proofs.YtmbgfcanchmmpaaDoor
