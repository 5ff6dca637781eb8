/- The calls of package nat over a list of numbers that are known: what each call adds to the list. -/
import Derived.Test.YthhighljfjeooaaDoorNatH
namespace Go.Proofs.YthhighljfjeooaaDoor
open Go.RowKit NatM

/-- Numbers that are known in the world wx, each with a bound of its length; below w nothing has changed. -/
structure St (w wx : World) (L : List (Nt × Nat)) : Prop where
  each : ∀ x : Nt × Nat, x ∈ L → NatV wx.heap.size wx x.1.1 x.1.2.1 x.1.2.2 ∧ x.1.2.2.length ≤ x.2
  below : Below w.heap.size w wx
theorem St.get {w wx : World} {L : List (Nt × Nat)} (S : St w wx L) {i : Nat} {p : Option Addr} {c : Nat} {l : List Nat} {k : Nat} (h : L[i]? = some ((p, c, l), k)) : NatV wx.heap.size wx p c l ∧ l.length ≤ k :=
  S.each _ (List.mem_of_getElem? h)
theorem St.next {w wx w' : World} {L : List (Nt × Nat)} (S : St w wx L) (hb : Below wx.heap.size wx w') : St w w' L :=
  ⟨fun x hx => ⟨(S.each x hx).1.next hb, (S.each x hx).2⟩, S.below.trans (hb.mono S.below.size)⟩
theorem St.push {w wx w' : World} {L : List (Nt × Nat)} (S : St w wx L) (hb : Below wx.heap.size wx w') {p : Option Addr} {c : Nat} {l : List Nat} {k : Nat} (h : NatV w'.heap.size w' p c l) (hl : l.length ≤ k) : St w w' (((p, c, l), k) :: L) :=
  ⟨fun x hx => by
    rcases List.mem_cons.1 hx with rfl | hx
    · exact ⟨h, hl⟩
    · exact (S.next hb).each x hx, (S.next hb).below⟩
theorem St.alloc {w wx : World} {L : List (Nt × Nat)} (S : St w wx L) (o : Obj) : St w (wx.alloc o) L := S.next ((Below.refl _ _).alloc (Nat.le_refl _) _)
/-- a literal of limbs, just laid -/
theorem St.lit {w wx : World} {L : List (Nt × Nat)} (S : St w wx L) (l : List Nat) (cs : Array Value) (t : TypeId) (hc : cs.toList = cells32 l) (hl : l.length ≤ 1000) (ok : ok32 l) :
    St w (wx.alloc (.cells cs t)) (((some ⟨wx.heap.size, 0, none⟩, l.length, l), l.length) :: L) :=
  S.push ((Below.refl _ _).alloc (Nat.le_refl _) _) (NatV.laid l cs t hc hl ok) (Nat.le_refl _)
theorem NatV.nothing (w : World) : NatV w.heap.size w none 0 [] := ⟨okB_nil _, Nat.le_refl _, Nat.zero_le _, fun _ => rfl, fun h => absurd rfl h⟩

theorem len_of {l : List Nat} (ho : ok32 l) {k : Nat} (hl : l.length ≤ k) : V32 l < 4294967296 ^ k := Nat.lt_of_lt_of_le (V32_lt ho) (Nat.pow_le_pow_right (by omega) hl)
theorem len_add {a b j k : Nat} (ha : a < 4294967296 ^ j) (hb : b < 4294967296 ^ k) : (D32 (a + b)).length ≤ max j k + 1 := by
  apply D32_len
  rw [Nat.pow_succ]
  have h1 : 4294967296 ^ j ≤ 4294967296 ^ max j k := Nat.pow_le_pow_right (by omega) (by omega)
  have h2 : 4294967296 ^ k ≤ 4294967296 ^ max j k := Nat.pow_le_pow_right (by omega) (by omega)
  omega
theorem len_mul {a b j k : Nat} (ha : a < 4294967296 ^ j) (hb : b < 4294967296 ^ k) : (D32 (a * b)).length ≤ j + k := by
  apply D32_len
  rw [Nat.pow_add]
  exact Nat.mul_lt_mul_of_lt_of_lt ha hb

def AddsPost (w : World) (L : List (Nt × Nat)) (N k : Nat) (e : Ending) (w' : World) : Prop :=
  ∃ p c, e = .returned (.slice p (D32 N).length c) ∧ St w w' (((p, c, D32 N), k) :: L)
def StPost (w : World) (L : List (Nt × Nat)) (v : Value) (e : Ending) (w' : World) : Prop := e = .returned v ∧ St w w' L

theorem St.tells {w wx : World} {L : List (Nt × Nat)} (S : St w wx L) {f : FuncId} {args : Array Value} {v : Value} (h : Calls Tryd.prog f args wx (Tells v wx)) : Calls Tryd.prog f args wx (StPost w L v) :=
  h.mono fun _ _ ⟨he, hb⟩ => ⟨he, S.next hb⟩
theorem St.makes {w wx : World} {L : List (Nt × Nat)} (S : St w wx L) {f : FuncId} {args : Array Value} {N k : Nat} (h : Calls Tryd.prog f args wx (NatPost wx N)) (hk : (D32 N).length ≤ k) : Calls Tryd.prog f args wx (AddsPost w L N k) :=
  h.mono fun _ _ ⟨p, c, he, ho, hb⟩ => ⟨p, c, he, S.push hb ho.toV hk⟩

theorem St.add {w wx : World} {L : List (Nt × Nat)} (S : St w wx L) (i i' N : Nat) {p q : Option Addr} {n n' c d : Nat} {l m : List Nat} {j k : Nat} (hi : L[i]? = some ((p, c, l), j)) (hi' : L[i']? = some ((q, d, m), k))
    (hj : j ≤ 100000) (hk : k ≤ 100000) (hN : V32 l + V32 m = N) (hn : n = l.length) (hn' : n' = m.length) : Calls Tryd.prog 35 #[.slice p n c, .slice q n' d] wx (AddsPost w L N (max j k + 1)) := by
  subst hN hn hn'
  exact S.makes (add_any p q c d l m wx (S.get hi).1 (S.get hi').1 (Nat.le_trans (S.get hi).2 hj) (Nat.le_trans (S.get hi').2 hk)) (len_add (len_of (S.get hi).1.ok (S.get hi).2) (len_of (S.get hi').1.ok (S.get hi').2))
theorem St.mul {w wx : World} {L : List (Nt × Nat)} (S : St w wx L) (i i' N : Nat) {p q : Option Addr} {n n' c d : Nat} {l m : List Nat} {j k : Nat} (hi : L[i]? = some ((p, c, l), j)) (hi' : L[i']? = some ((q, d, m), k))
    (hj : j ≤ 100000) (hk : k ≤ 100000) (hN : V32 l * V32 m = N) (hn : n = l.length) (hn' : n' = m.length) : Calls Tryd.prog 50 #[.slice p n c, .slice q n' d] wx (AddsPost w L N (j + k)) := by
  subst hN hn hn'
  exact S.makes (mul_any p q c d l m wx (S.get hi).1 (S.get hi').1 (Nat.le_trans (S.get hi).2 hj) (Nat.le_trans (S.get hi').2 hk)) (len_mul (len_of (S.get hi).1.ok (S.get hi).2) (len_of (S.get hi').1.ok (S.get hi').2))
theorem St.nats {w wx : World} {L : List (Nt × Nat)} (S : St w wx L) (i i' : Nat) {p q : Option Addr} {n n' c d : Nat} {l m : List Nat} {j k : Nat} (hi : L[i]? = some ((p, c, l), j)) (hi' : L[i']? = some ((q, d, m), k))
    (hlm : l = m) (hn : n = l.length) (hn' : n' = m.length) : Calls Tryd.prog 48 #[.slice p n c, .slice q n' d] wx (StPost w L (.bool true)) := by
  subst hlm
  exact S.tells (nats_eq p q n n' c d l wx hn hn' (S.get hi).1 (S.get hi').1)
theorem St.cmp {w wx : World} {L : List (Nt × Nat)} (S : St w wx L) (i i' : Nat) {p q : Option Addr} {n n' c d : Nat} {l m : List Nat} {j k : Nat} (hi : L[i]? = some ((p, c, l), j)) (hi' : L[i']? = some ((q, d, m), k))
    (hn : n = l.length) (hn' : n' = m.length) (r : Int) (hr : cmpN (V32 l) (V32 m) = r) : Calls Tryd.prog 19 #[.slice p n c, .slice q n' d] wx (StPost w L (.int .i64 r)) := by
  subst hn hn' hr
  exact S.tells (cmp_any p q c d l m wx (S.get hi).1 (S.get hi').1)
/-- the sum of numbers that stand in a literal, just laid -/
theorem St.sum {w wx : World} {L : List (Nt × Nat)} (S : St w wx L) (K : List Nt) (cs : Array Value) (t : TypeId) (hc : cs.toList = K.map Nt.val) (hl : K.length ≤ 1000) (M : Nat) (hM : M ≤ 100000) (h : ∀ x : Nt, x ∈ K → ∃ k, (x, k) ∈ L ∧ k ≤ M) (N : Nat) (hN : sumV K = N) {n c : Nat} (hn : n = K.length) (hcap : c = K.length) :
    Calls Tryd.prog 62 #[.slice (some ⟨wx.heap.size, 0, none⟩) n c] (wx.alloc (.cells cs t)) (AddsPost w L N (M + 1)) := by
  subst hN hcap
  have hx : ∀ x : Nt, x ∈ K → NatV wx.heap.size wx x.1 x.2.1 x.2.2 ∧ x.2.2.length ≤ M := fun x hx => by
    obtain ⟨k, hk, hkM⟩ := h x hx
    exact ⟨(S.each _ hk).1, Nat.le_trans (S.each _ hk).2 hkM⟩
  exact (S.alloc _).makes (sum_any _ n _ K _ hn (NatsV.laid K cs t hc hl fun x h => (hx x h).1) hl fun x h => Nat.le_trans (hx x h).2 hM)
    (sumV_len (fun x h => ⟨(hx x h).1.ok, (hx x h).2⟩) hl)
theorem St.long {w wx : World} {L : List (Nt × Nat)} (S : St w wx L) (K : List Nt) (cs : Array Value) (t : TypeId) (hc : cs.toList = K.map Nt.val) (hl : K.length ≤ 1000) (h : ∀ x : Nt, x ∈ K → ∃ k, (x, k) ∈ L) {n c : Nat} (hn : n = K.length) (hcap : c = K.length) :
    Calls Tryd.prog 11 #[.slice (some ⟨wx.heap.size, 0, none⟩) n c] (wx.alloc (.cells cs t)) (StPost w L (.bool (longB K))) := by
  subst hcap
  exact (S.alloc _).tells (long_any _ n _ K _ hn (NatsV.laid K cs t hc hl fun x hx => by
    obtain ⟨k, hk⟩ := h x hx
    exact (S.each _ hk).1))
/-- a list with better bounds -/
theorem St.bound {w wx : World} {L L' : List (Nt × Nat)} (S : St w wx L) (h : ∀ x : Nt × Nat, x ∈ L' → (∃ k, (x.1, k) ∈ L) ∧ x.1.2.2.length ≤ x.2) : St w wx L' :=
  ⟨fun x hx => by
    obtain ⟨⟨k, hk⟩, hl⟩ := h x hx
    exact ⟨(S.each _ hk).1, hl⟩, S.below⟩
end Go.Proofs.YthhighljfjeooaaDoor
