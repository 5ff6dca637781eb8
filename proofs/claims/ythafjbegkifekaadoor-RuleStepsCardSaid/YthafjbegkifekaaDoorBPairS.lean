/- Local and Step, the program's and the document's, told by one word. -/
import Derived.Test.YthafjbegkifekaaDoorBPairR
import Derived.Test.YthafjbegkifekaaDoorBRefRE
namespace Go.Proofs.YthafjbegkifekaaDoor
open Go.RowKit Go.Extern.Stop Go.Stop Go.Extern WordM RuleM NatM

theorem numOk_chkT (k r : Int) (t l : List Int) : numOk (chkT k r t l) := fun y hy => by
  unfold chkT at hy
  split at hy
  · obtain rfl := Option.some.inj hy; simp
  · split at hy
    · obtain rfl := Option.some.inj hy; simp
    · obtain ⟨i, _, rfl⟩ := Option.map_eq_some_iff.1 hy; simp
theorem numOk_chkL (k r : Int) (t l : List Int) : numOk (chkL k r t l) := fun y hy => by
  unfold chkL at hy
  split at hy
  · obtain rfl := Option.some.inj hy; simp
  · split at hy
    · obtain rfl := Option.some.inj hy; simp
    · obtain ⟨i, _, rfl⟩ := Option.map_eq_some_iff.1 hy; simp
/-- what Step tells beside the error -/
def stepL (k r : Int) (t l : List Int) : List Int := match chkT k r t l with
  | some _ => []
  | none => imgW k.toNat r.toNat t l
/-- what Local tells beside the error -/
def localV (k r : Int) (t l : List Int) : Int := match chkL k r t l with
  | some _ => 0
  | none => ent t (valW k.toNat l)
/-- a list and an error -/
def ListA (w : World) (A : Nat → Addr) (op : ByteArray) (x : Option (Nat × Nat)) (L : List Int) (e : Ending) (w' : World) : Prop :=
  ∃ p c v, e = .returned (.tuple #[.slice p L.length c, v]) ∧ IntO w.heap.size w' p c L ∧ ErrA w' A op x v ∧ Below w.heap.size w w'
def ListB (w : World) (op : ByteArray) (x : Option (Nat × Nat)) (L : List Int) (e : Ending) (w' : World) : Prop :=
  ∃ p c a po pa n, e = .returned (.tuple #[.slice p L.length c, .agg #[.int .i64 a, .slice po n n, .slice pa n n]]) ∧ IntO w.heap.size w' p c L ∧ ErrB w' op x a po pa n ∧ Below w.heap.size w w'
theorem step_a (k r : Int) (p q : Option Addr) (n c m d : Nat) (t l : List Int) (w : World) (A : Nat → Addr) (hr : Roots w A) (hn : n = t.length) (hm : m = l.length) (h : IntV w.heap.size w p c t) (hl : IntV w.heap.size w q d l) :
    Calls Tryd.prog 20 #[.agg #[.int .i64 k, .int .i64 r, .slice p n c], .slice q m d] w (ListA w A ruleOp (chkT k r t l) (stepL k r t l)) := by
  unfold stepL
  cases hc : chkT k r t l with
  | some y => exact (step_bad k r p q n c m d t l w A hr hn hm h hl y.1 y.2 hc).mono fun e w' ⟨b, he, hb1, hb2⟩ => ⟨none, 0, _, he, IntO.nothing _ _, ⟨b, rfl, hb1⟩, hb2⟩
  | none => exact (step_ok k r p q n c m d t l w hn hm h hl hc).mono fun e w' ⟨p', c', he, ho, hb⟩ => ⟨p', c', _, he, ho, rfl, hb⟩
theorem step_b (k r : Int) (p q : Option Addr) (n c m d : Nat) (t l : List Int) (w : World) (hn : n = t.length) (hm : m = l.length) (h : IntV w.heap.size w p c t) (hl : IntV w.heap.size w q d l) :
    Calls Tryd.prog 21 #[.agg #[.int .i64 k, .int .i64 r, .slice p n c], .slice q m d] w (ListB w ruleOp (chkT k r t l) (stepL k r t l)) := by
  unfold stepL
  cases hc : chkT k r t l with
  | some y =>
    exact (step_ref_bad k r p q n c m d t l w hn hm h hl y.1 y.2 hc).mono fun e w' ⟨v, he, hv⟩ => by
      obtain ⟨a, po, pa, z, rfl, h1, h2⟩ := RefErrR.b (i := y.1) (m := y.2) hv
      exact ⟨none, 0, a, po, pa, z, he, IntO.nothing _ _, h1, h2⟩
  | none =>
    obtain ⟨K, R, rfl, rfl, ho, h4, hw⟩ := chkT_none hc
    rw [Int.toNat_natCast, Int.toNat_natCast]
    exact (step_ref_ok K R p q n c m d t l w hn hm h hl ho (by omega) hw).mono fun e w' ⟨p', c', he, ho, hb⟩ => ⟨p', c', 0, none, none, 0, he, ho, ⟨rfl, rfl, rfl, rfl⟩, hb⟩
theorem local_a (k r : Int) (p q : Option Addr) (n c m d : Nat) (t l : List Int) (w : World) (A : Nat → Addr) (hr : Roots w A) (hn : n = t.length) (hm : m = l.length) (h : IntV w.heap.size w p c t) (hl : IntV w.heap.size w q d l) :
    Calls Tryd.prog 22 #[.agg #[.int .i64 k, .int .i64 r, .slice p n c], .slice q m d] w (PostA2 w A ruleOp (chkL k r t l) (.int .i64 (localV k r t l))) := by
  unfold localV
  cases hc : chkL k r t l with
  | some y => exact (local_bad k r p q n c m d t l w A hr hn hm h hl y.1 y.2 hc).mono fun e w' ⟨b, he, hb1, hb2⟩ => ⟨_, he, ⟨b, rfl, hb1⟩, hb2⟩
  | none =>
    obtain ⟨K, R, rfl, rfl, ho, hlen, hw⟩ := chkL_none hc
    exact (local_ok K R p q n c m d t l w hn hm h hl ho hlen hw).mono fun e w' ⟨he, hb⟩ => ⟨_, he, rfl, hb⟩
theorem local_b (k r : Int) (p q : Option Addr) (n c m d : Nat) (t l : List Int) (w : World) (hn : n = t.length) (hm : m = l.length) (h : IntV w.heap.size w p c t) (hl : IntV w.heap.size w q d l) :
    Calls Tryd.prog 23 #[.agg #[.int .i64 k, .int .i64 r, .slice p n c], .slice q m d] w (PostB2 w ruleOp (chkL k r t l) (.int .i64 (localV k r t l))) := by
  unfold localV
  cases hc : chkL k r t l with
  | some y =>
    exact (local_ref_bad k r p q n c m d t l w hn hm h hl y.1 y.2 hc).mono fun e w' ⟨v, he, hv⟩ => by
      obtain ⟨a, po, pa, z, rfl, h1, h2⟩ := RefErrR.b (i := y.1) (m := y.2) hv
      exact ⟨a, po, pa, z, he, h1, h2⟩
  | none =>
    obtain ⟨K, R, rfl, rfl, ho, hlen, hw⟩ := chkL_none hc
    exact (local_ref_ok K R p q n c m d t l w hn hm h hl ho hlen hw).mono fun e w' ⟨he, hb⟩ => ⟨0, none, none, 0, he, ⟨rfl, rfl, rfl, rfl⟩, hb⟩
end Go.Proofs.YthafjbegkifekaaDoor
