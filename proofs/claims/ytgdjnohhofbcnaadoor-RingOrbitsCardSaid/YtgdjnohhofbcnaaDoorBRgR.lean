/- Package ring and the document's rings, told by one word: Step, After, Trace of any rule, ring and number. -/
import Derived.Test.YtgdjnohhofbcnaaDoorBRgQ
namespace Go.Proofs.YtgdjnohhofbcnaaDoor
open Go.RowKit Go.Extern.Stop Go.Stop Go.Extern WordM RuleM NatM

/-- the document's error, its two slices of any capacity -/
def WCg (w : World) (x : Option (List (ByteArray × Int) × Nat)) (a : Int) (po pa : Option Addr) (n co ca : Nat) : Prop := match x with
  | none => a = 0 ∧ po = none ∧ pa = none ∧ n = 0 ∧ co = 0 ∧ ca = 0
  | some (L, m) => a = m ∧ n = L.length ∧ WantV w po pa co ca L
theorem WCg.next {w w' : World} {x : Option (List (ByteArray × Int) × Nat)} {a : Int} {po pa : Option Addr} {n co ca : Nat} (hb : Below w.heap.size w w') (h : WCg w x a po pa n co ca) : WCg w' x a po pa n co ca := by
  cases x with
  | none => exact h
  | some y => exact ⟨h.1, h.2.1, h.2.2.below hb⟩
theorem is_wcg {w : World} {A : Nat → Addr} {x : Option (List (ByteArray × Int) × Nat)} {v : Value} {a : Int} {po pa : Option Addr} {n co ca : Nat} (hr : Roots w A) (hT : TypeVar w) (hx : ∀ y, x = some y → 1 ≤ y.2 ∧ y.2 ≤ 11) (h : PChn w A x v) (h' : WCg w x a po pa n co ca) :
    Calls Tryd.prog 19 #[v, .agg #[.int .i64 a, .slice po n co, .slice pa n ca]] w (Tells (.bool true) w) := by
  cases x with
  | none =>
    obtain ⟨rfl, rfl, rfl, rfl, rfl, rfl⟩ := h'
    obtain rfl : v = .nilIface := h
    exact Is_none none none 0 0 0 0 w
  | some y =>
    obtain ⟨rfl, hn, hw⟩ := h'
    obtain ⟨b, rfl, op, pl, bs, hL, hl⟩ := h
    have hL2 : List.map Prod.snd ((b, op, pl) :: bs) = y.1 := hL
    exact Is_chain ((b, op, pl) :: bs) y.2 (hx y rfl) po pa n co ca w A hr hT hl (by rw [hL2]; exact hw) (by rw [hn, ← hL2, List.length_map])
def ProgL (w : World) (A : Nat → Addr) (x : Option (List (ByteArray × Int) × Nat)) (I : List Int) (e : Ending) (w' : World) : Prop :=
  ∃ p c v, e = .returned (.tuple #[.slice p I.length c, v]) ∧ IntO w.heap.size w' p c I ∧ PChn w' A x v ∧ Below w.heap.size w w'
def RefL (w : World) (x : Option (List (ByteArray × Int) × Nat)) (I : List Int) (e : Ending) (w' : World) : Prop :=
  ∃ p c a po pa n co ca, e = .returned (.tuple #[.slice p I.length c, .agg #[.int .i64 a, .slice po n co, .slice pa n ca]]) ∧ IntO w.heap.size w' p c I ∧ WCg w' x a po pa n co ca ∧ Below w.heap.size w w'
theorem ProgL.ok {w w' : World} {A : Nat → Addr} {x : Option (List (ByteArray × Int) × Nat)} {I : List Int} {e : Ending} (hx : x = none) (h : IntOk w I e w') : ProgL w A x I e w' := by
  obtain ⟨p, c, he, ho, hb⟩ := h
  subst hx
  exact ⟨p, c, _, he, ho, rfl, hb⟩
theorem ProgL.bad {w w' : World} {A : Nat → Addr} {x : Option (List (ByteArray × Int) × Nat)} {I : List Int} {L : List (ByteArray × Int)} {M : Nat} {e : Ending} (hx : x = some (L, M)) (hI : I = []) (h : FErr2 w A L M (.slice none 0 0) e w') : ProgL w A x I e w' := by
  obtain ⟨b, he, hl, hb⟩ := h
  subst hx hI
  exact ⟨none, 0, _, he, IntO.nothing _ _, ⟨b, rfl, hl⟩, hb⟩
theorem RefL.ok {w w' : World} {x : Option (List (ByteArray × Int) × Nat)} {I : List Int} {e : Ending} (hx : x = none) (h : GRefOk w I e w') : RefL w x I e w' := by
  obtain ⟨p, c, he, ho, hb⟩ := h
  subst hx
  exact ⟨p, c, _, _, _, _, _, _, he, ho, ⟨rfl, rfl, rfl, rfl, rfl, rfl⟩, hb⟩
theorem RefL.bad {w w' : World} {x : Option (List (ByteArray × Int) × Nat)} {I : List Int} {L : List (ByteArray × Int)} {M : Nat} {e : Ending} (hx : x = some (L, M)) (hI : I = []) (h : GUnd w M L e w') : RefL w x I e w' := by
  obtain ⟨go, ga, co, ca, he, hw, hb⟩ := h
  subst hx hI
  exact ⟨none, 0, _, _, _, _, _, _, he, IntO.nothing _ _, ⟨rfl, rfl, hw⟩, hb⟩
/-- what Step, After and Trace tell beside the error -/
def lsS (k r : Int) (t l : List Int) : List Int := match chkG k r t l with
  | some _ => []
  | none => ringW k.toNat r.toNat t l
def lsA (k r : Int) (t l : List Int) (z : Int) : List Int := match chkA k r t l z with
  | some _ => []
  | none => stepsW k.toNat r.toNat t z.toNat l
def lsT (k r : Int) (t l : List Int) (z : Int) : List Int := match chkA k r t l z with
  | some _ => []
  | none => traceW k.toNat r.toNat t z.toNat l
theorem stepP (k r : Int) (p q : Option Addr) (n c m d : Nat) (t l : List Int) (w : World) (A : Nat → Addr) (hr : Roots w A) (hT : TypeVar w) (hn : n = t.length) (hm : m = l.length) (h : IntV w.heap.size w p c t) (h' : IntV w.heap.size w q d l) :
    Calls Tryd.prog 12 #[.agg #[.int .i64 k, .int .i64 r, .slice p n c], .slice q m d] w (ProgL w A (chkG k r t l) (lsS k r t l)) := by
  cases hc : chkG k r t l with
  | some y => exact (gStep_bad k r p q n c m d t l w A hr hT hn hm h h' y.1 y.2 hc).mono fun e w' hp => ProgL.bad rfl (by unfold lsS; rw [hc]) hp
  | none =>
    obtain ⟨K, R, rfl, rfl, ho, h0, h4, hw⟩ := chkG_none hc
    exact (gStep_ok K R p q n c m d t l w hn hm h h' ho h0 h4 hw).mono fun e w' hp => ProgL.ok rfl (by unfold lsS; rw [hc]; exact hp)
theorem stepR (k r : Int) (p q : Option Addr) (n c m d : Nat) (t l : List Int) (w : World) (hn : n = t.length) (hm : m = l.length) (h : IntV w.heap.size w p c t) (h' : IntV w.heap.size w q d l) :
    Calls Tryd.prog 13 #[.agg #[.int .i64 k, .int .i64 r, .slice p n c], .slice q m d] w (RefL w (chkG k r t l) (lsS k r t l)) := by
  cases hc : chkG k r t l with
  | some y => exact (gstep_ref_bad k r p q n c m d t l w hn hm h h' y.1 y.2 hc).mono fun e w' hp => RefL.bad rfl (by unfold lsS; rw [hc]) hp
  | none =>
    obtain ⟨K, R, rfl, rfl, ho, h0, h4, hw⟩ := chkG_none hc
    exact (gstep_ref_ok K R p q n c m d t l w hn hm h h' ho h0 h4 hw).mono fun e w' hp => RefL.ok rfl (by unfold lsS; rw [hc]; exact hp)
theorem afterP (k r z : Int) (p q : Option Addr) (n c m d : Nat) (t l : List Int) (w : World) (A : Nat → Addr) (hr : Roots w A) (hT : TypeVar w) (hn : n = t.length) (hm : m = l.length) (h : IntV w.heap.size w p c t) (h' : IntV w.heap.size w q d l) :
    Calls Tryd.prog 14 #[.agg #[.int .i64 k, .int .i64 r, .slice p n c], .slice q m d, .int .i64 z] w (ProgL w A (chkA k r t l z) (lsA k r t l z)) := by
  cases hc : chkA k r t l z with
  | some y => exact (gAfter_bad k r z p q n c m d t l w A hr hT hn hm h h' y.1 y.2 hc).mono fun e w' hp => ProgL.bad rfl (by unfold lsA; rw [hc]) hp
  | none =>
    obtain ⟨hg, N, rfl, hN⟩ := chkA_none hc
    obtain ⟨K, R, rfl, rfl, ho, h0, h4, hw⟩ := chkG_none hg
    exact (gAfter_ok K R N p q n c m d t l w hn hm h h' ho h0 h4 hw hN).mono fun e w' hp => ProgL.ok rfl (by unfold lsA; rw [hc]; exact hp)
theorem afterR (k r z : Int) (p q : Option Addr) (n c m d : Nat) (t l : List Int) (w : World) (hn : n = t.length) (hm : m = l.length) (h : IntV w.heap.size w p c t) (h' : IntV w.heap.size w q d l) (hz1 : -9223372036854775808 ≤ z) (hz2 : z ≤ 9223372036854775807) :
    Calls Tryd.prog 15 #[.agg #[.int .i64 k, .int .i64 r, .slice p n c], .slice q m d, .int .i64 z] w (RefL w (chkA k r t l z) (lsA k r t l z)) := by
  cases hc : chkA k r t l z with
  | some y => exact (gafter_ref_bad k r z p q n c m d t l w hn hm h h' y.1 y.2 hz1 hz2 hc).mono fun e w' hp => RefL.bad rfl (by unfold lsA; rw [hc]) hp
  | none =>
    obtain ⟨hg, N, rfl, hN⟩ := chkA_none hc
    obtain ⟨K, R, rfl, rfl, ho, h0, h4, hw⟩ := chkG_none hg
    exact (gafter_ref_ok K R N p q n c m d t l w hn hm h h' ho h0 h4 hw hN).mono fun e w' hp => RefL.ok rfl (by unfold lsA; rw [hc]; exact hp)
theorem traceP (k r z : Int) (p q : Option Addr) (n c m d : Nat) (t l : List Int) (w : World) (A : Nat → Addr) (hr : Roots w A) (hT : TypeVar w) (hn : n = t.length) (hm : m = l.length) (h : IntV w.heap.size w p c t) (h' : IntV w.heap.size w q d l) :
    Calls Tryd.prog 16 #[.agg #[.int .i64 k, .int .i64 r, .slice p n c], .slice q m d, .int .i64 z] w (ProgL w A (chkA k r t l z) (lsT k r t l z)) := by
  cases hc : chkA k r t l z with
  | some y => exact (gTrace_bad k r z p q n c m d t l w A hr hT hn hm h h' y.1 y.2 hc).mono fun e w' hp => ProgL.bad rfl (by unfold lsT; rw [hc]) hp
  | none =>
    obtain ⟨hg, N, rfl, hN⟩ := chkA_none hc
    obtain ⟨K, R, rfl, rfl, ho, h0, h4, hw⟩ := chkG_none hg
    exact (gTrace_ok K R N p q n c m d t l w hn hm h h' ho h0 h4 hw hN).mono fun e w' hp => ProgL.ok rfl (by unfold lsT; rw [hc]; exact hp)
theorem traceR (k r z : Int) (p q : Option Addr) (n c m d : Nat) (t l : List Int) (w : World) (hn : n = t.length) (hm : m = l.length) (h : IntV w.heap.size w p c t) (h' : IntV w.heap.size w q d l) (hz1 : -9223372036854775808 ≤ z) (hz2 : z ≤ 9223372036854775807) :
    Calls Tryd.prog 17 #[.agg #[.int .i64 k, .int .i64 r, .slice p n c], .slice q m d, .int .i64 z] w (RefL w (chkA k r t l z) (lsT k r t l z)) := by
  cases hc : chkA k r t l z with
  | some y => exact (gtrace_ref_bad k r z p q n c m d t l w hn hm h h' y.1 y.2 hz1 hz2 hc).mono fun e w' hp => RefL.bad rfl (by unfold lsT; rw [hc]) hp
  | none =>
    obtain ⟨hg, N, rfl, hN⟩ := chkA_none hc
    obtain ⟨K, R, rfl, rfl, ho, h0, h4, hw⟩ := chkG_none hg
    exact (gtrace_ref_ok K R N p q n c m d t l w hn hm h h' ho h0 h4 hw hN).mono fun e w' hp => RefL.ok rfl (by unfold lsT; rw [hc]; exact hp)
end Go.Proofs.YtgdjnohhofbcnaaDoor
