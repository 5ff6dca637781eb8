/- Code and From, the program's and the document's, told by one word. -/
import Derived.Test.YthafjbegkifekaaDoorBPairR
import Derived.Test.YthafjbegkifekaaDoorBRefRF
import Derived.Test.YthafjbegkifekaaDoorBRefRG
namespace Go.Proofs.YthafjbegkifekaaDoor
open Go.RowKit Go.Extern.Stop Go.Stop Go.Extern WordM RuleM NatM

theorem chkS_num {k r : Int} {t : List Int} {i m : Nat} (h : chkS k r t = some (i, m)) : m ≠ 0 := by
  have := numOk_chkS k r t _ h
  simp at this; omega
theorem numOk_chkF (k r : Int) (i : Nat) : numOk (chkF k r i) := fun y hy => by
  unfold chkF at hy
  split at hy
  · obtain rfl := Option.some.inj hy; simp
  · split at hy
    · obtain rfl := Option.some.inj hy; simp
    · split at hy
      · obtain rfl := Option.some.inj hy; simp
      · cases hy
theorem chkF_none {k r : Int} {i : Nat} (h : chkF k r i = none) : ∃ K R : Nat, k = K ∧ r = R ∧ 1 ≤ K ∧ K ≤ 4 ∧ R ≤ 3 ∧ K ^ (2 * R + 1) ≤ 256 ∧ i < K ^ (K ^ (2 * R + 1)) := by
  unfold chkF at h
  split at h
  · cases h
  · split at h
    · cases h
    · split at h
      · cases h
      · obtain ⟨K, rfl⟩ : ∃ K : Nat, k = K := ⟨k.toNat, by omega⟩
        obtain ⟨R, rfl⟩ : ∃ R : Nat, r = R := ⟨r.toNat, by omega⟩
        rw [Int.toNat_natCast, Int.toNat_natCast] at *
        exact ⟨K, R, rfl, rfl, by omega, by omega, by omega, by omega, by omega⟩
/-- what Code tells beside the error -/
def codeN (k r : Int) (t : List Int) : Nat := match chkS k r t with
  | some _ => 0
  | none => codeR k.toNat t
def NumA (w : World) (A : Nat → Addr) (op : ByteArray) (x : Option (Nat × Nat)) (N : Nat) (e : Ending) (w' : World) : Prop :=
  ∃ p c v, e = .returned (.tuple #[.slice p (D32 N).length c, v]) ∧ NatO w.heap.size w' p c (D32 N) ∧ ErrA w' A op x v ∧ Below w.heap.size w w'
def NumB (w : World) (op : ByteArray) (x : Option (Nat × Nat)) (N : Nat) (e : Ending) (w' : World) : Prop :=
  ∃ p c a po pa n, e = .returned (.tuple #[.slice p (D32 N).length c, .agg #[.int .i64 a, .slice po n n, .slice pa n n]]) ∧ NatO w.heap.size w' p c (D32 N) ∧ ErrB w' op x a po pa n ∧ Below w.heap.size w w'
theorem nat_none {P : List Nat → Prop} (h : P []) : P (D32 0) := by rw [D32_nil.2 rfl]; exact h
theorem code_a (k r : Int) (p : Option Addr) (n c : Nat) (t : List Int) (w : World) (A : Nat → Addr) (hr : Roots w A) (hn : n = t.length) (h : IntV w.heap.size w p c t) :
    Calls Tryd.prog 27 #[.agg #[.int .i64 k, .int .i64 r, .slice p n c]] w (NumA w A ruleOp (chkS k r t) (codeN k r t)) := by
  unfold codeN
  cases hc : chkS k r t with
  | some y => exact (code_bad k r p n c t w A hr hn h y.1 y.2 hc).mono fun e w' ⟨b, he, hb1, hb2⟩ => ⟨none, 0, _, by simp only []; rw [D32_nil.2 rfl]; exact he, by simp only []; rw [D32_nil.2 rfl]; exact NatO.nothing _ _, ⟨b, rfl, hb1⟩, hb2⟩
  | none =>
    obtain ⟨K, R, rfl, rfl, ho, hs⟩ := chkS_none hc
    exact (code_ok K R p n c t w hn h ho hs).mono fun e w' ⟨p', c', he, ho', hb⟩ => ⟨p', c', _, he, ho', rfl, hb⟩
theorem code_b (k r : Int) (p : Option Addr) (n c : Nat) (t : List Int) (w : World) (hn : n = t.length) (h : IntV w.heap.size w p c t) :
    Calls Tryd.prog 28 #[.agg #[.int .i64 k, .int .i64 r, .slice p n c]] w (NumB w ruleOp (chkS k r t) (codeN k r t)) := by
  unfold codeN
  cases hc : chkS k r t with
  | some y =>
    exact (code_ref_bad k r p n c t w hn h y.1 y.2 (chkS_num hc) hc).mono fun e w' ⟨v, he, hv⟩ => by
      obtain ⟨a, po, pa, z, rfl, h1, h2⟩ := RefErrR.b (i := y.1) (m := y.2) hv
      exact ⟨none, 0, a, po, pa, z, by simp only []; rw [D32_nil.2 rfl]; exact he, by simp only []; rw [D32_nil.2 rfl]; exact NatO.nothing _ _, h1, h2⟩
  | none =>
    obtain ⟨K, R, rfl, rfl, ho, hs⟩ := chkS_none hc
    exact (code_ref_ok K R p n c t w hn h ho (by omega)).mono fun e w' ⟨p', c', he, ho', hb⟩ => ⟨p', c', 0, none, none, 0, he, ho', ⟨rfl, rfl, rfl, rfl⟩, hb⟩
/-- what From tells beside the error -/
def FromIs (k r : Int) (i : Nat) (K R : Int) (t : List Int) : Prop := match chkF k r i with
  | some _ => K = 0 ∧ R = 0 ∧ t = []
  | none => K = k ∧ R = r ∧ OkR k.toNat r.toNat t ∧ codeR k.toNat t = i
theorem FromIs.unique {k r : Int} {i : Nat} {K R K' R' : Int} {t t' : List Int} (h : FromIs k r i K R t) (h' : FromIs k r i K' R' t') : K = K' ∧ R = R' ∧ t = t' := by
  unfold FromIs at h h'
  cases hc : chkF k r i with
  | some y =>
    rw [hc] at h h'
    obtain ⟨rfl, rfl, rfl⟩ := h
    obtain ⟨rfl, rfl, rfl⟩ := h'
    exact ⟨rfl, rfl, rfl⟩
  | none =>
    rw [hc] at h h'
    obtain ⟨rfl, rfl, h1, h2⟩ := h
    obtain ⟨rfl, rfl, h3, h4⟩ := h'
    exact ⟨rfl, rfl, code_inj h1 h3 (by rw [h2, h4])⟩
def RuleA (w : World) (A : Nat → Addr) (k r : Int) (i : Nat) (e : Ending) (w' : World) : Prop :=
  ∃ K R t p c v, FromIs k r i K R t ∧ e = .returned (.tuple #[.agg #[.int .i64 K, .int .i64 R, .slice p t.length c], v]) ∧ IntO w.heap.size w' p c t ∧ ErrA w' A ruleOp (chkF k r i) v ∧ Below w.heap.size w w'
def RuleB (w : World) (k r : Int) (i : Nat) (e : Ending) (w' : World) : Prop :=
  ∃ K R t p c a po pa n, FromIs k r i K R t ∧ e = .returned (.tuple #[.agg #[.int .i64 K, .int .i64 R, .slice p t.length c], .agg #[.int .i64 a, .slice po n n, .slice pa n n]]) ∧ IntO w.heap.size w' p c t ∧ ErrB w' ruleOp (chkF k r i) a po pa n ∧ Below w.heap.size w w'
theorem from_a (k r : Int) (p : Option Addr) (m c : Nat) (a : List Nat) (w : World) (A : Nat → Addr) (hr : Roots w A) (hm : m = a.length) (h : NatV w.heap.size w p c a) (hl : a.length ≤ 100000) :
    Calls Tryd.prog 29 #[.int .i64 k, .int .i64 r, .slice p m c] w (RuleA w A k r (V32 a)) := by
  cases hc : chkF k r (V32 a) with
  | some y =>
    exact (from_bad k r p m c a w A hr hm h y.1 y.2 hc).mono fun e w' ⟨b, he, hb1, hb2⟩ => ⟨0, 0, [], none, 0, _, by unfold FromIs; rw [hc]; exact ⟨rfl, rfl, rfl⟩, he, IntO.nothing _ _, by rw [hc]; exact ⟨b, rfl, hb1⟩, hb2⟩
  | none =>
    obtain ⟨K, R, rfl, rfl, h1, h4, h3, hs, hlt⟩ := chkF_none hc
    exact (from_ok K R p m c a w hm h hl h1 h4 h3 hs hlt).mono fun e w' ⟨t, ho, hcd, p', c', he, ho', hb⟩ => ⟨K, R, t, p', c', _, by unfold FromIs; rw [hc]; exact ⟨rfl, rfl, ho, hcd⟩, he, ho', by rw [hc]; rfl, hb⟩
theorem from_b (k r : Int) (p : Option Addr) (m c : Nat) (a : List Nat) (w : World) (hm : a.length = m) (h : NatV w.heap.size w p c a) (hl : a.length ≤ 1000) :
    Calls Tryd.prog 30 #[.int .i64 k, .int .i64 r, .slice p m c] w (RuleB w k r (V32 a)) := by
  cases hc : chkF k r (V32 a) with
  | some y =>
    exact (from_ref_bad k r p m c a w hm h hl y.1 y.2 hc).mono fun e w' ⟨v, he, hv⟩ => by
      obtain ⟨a', po, pa, z, rfl, h1, h2⟩ := RefErrR.b (i := y.1) (m := y.2) hv
      exact ⟨0, 0, [], none, 0, a', po, pa, z, by unfold FromIs; rw [hc]; exact ⟨rfl, rfl, rfl⟩, he, IntO.nothing _ _, by rw [hc]; exact h1, h2⟩
  | none =>
    obtain ⟨K, R, rfl, rfl, h1, h4, h3, hs, hlt⟩ := chkF_none hc
    exact (from_ref_ok K R p m c a w hm h hl h1 h4 h3 hs hlt).mono fun e w' ⟨t, p', c', ho, hcd, he, ho', hb⟩ => ⟨K, R, t, p', c', 0, none, none, 0, by unfold FromIs; rw [hc]; exact ⟨rfl, rfl, ho, hcd⟩, he, ho', by rw [hc]; exact ⟨rfl, rfl, rfl, rfl⟩, hb⟩
end Go.Proofs.YthafjbegkifekaaDoor
