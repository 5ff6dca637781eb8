/- FormsSames: its walk. -/
import Derived.Test.YtienaogmljlmlaaGreatDoorB7
namespace Go.Proofs.YtienaogmljlmlaaGreatDoor
open Go.RowKit Go.Extern.Stop Go.Stop Go.Extern WordM RuleM NatM

/-- Narrow of any rule, as far as it matters behind a refusal -/
def NarAny (w : World) (e : Ending) (w' : World) : Prop :=
  ∃ (k r : Int) (p : Option Addr) (n c : Nat) (v : Value), e = .returned (.tuple #[.agg #[.int .i64 k, .int .i64 r, .slice p n c], v]) ∧ Below w.heap.size w w'
theorem fnarrow_any (k r : Int) (p : Option Addr) (n c : Nat) (t : List Int) (w : World) (A : Nat → Addr) (hr : Roots w A) (hn : n = t.length) (h : IntV w.heap.size w p c t) :
    Calls Tryz.prog 24 #[.agg #[.int .i64 k, .int .i64 r, .slice p n c]] w (NarAny w) := by
  cases hc : chkR k r t with
  | some i => exact (fnarrow_bad k r p n c t w A hr hn h i hc).mono fun e w' ⟨b, he, _, hb⟩ => ⟨_, _, _, _, _, _, he, hb⟩
  | none =>
    obtain ⟨K, R, rfl, rfl, ho⟩ := chkR_none hc
    exact (fnarrow_ok K R p n c t w hn h ho).mono fun e w' ⟨s, u, _, p', c', he, _, hb⟩ => ⟨_, _, _, _, _, _, he, hb⟩

set_option maxRecDepth 100000 in
set_option maxHeartbeats 8000000 in
theorem sames_bad (k r k' r' x : Int) (p q : Option Addr) (n c m d : Nat) (t u : List Int) (w : World) (A : Nat → Addr) (hr : Roots w A) (hn : n = t.length) (hm : m = u.length) (h : IntV w.heap.size w p c t) (h' : IntV w.heap.size w q d u) (L : List (ByteArray × Int)) (z : Nat) (hc : chkF2 k r t k' r' u = some (L, z)) :
    Calls Tryz.prog 6 #[.agg #[.int .i64 k, .int .i64 r, .slice p n c], .agg #[.int .i64 k', .int .i64 r', .slice q m d], .int .i64 x] w (Tells (.bool true) w) := by
  cases hk : chkR k r t with
  | some i =>
    have H := Lib.hid (And.intro hr (And.intro hn (And.intro hm (And.intro h (And.intro h' (And.intro hc hk))))))
    clear hr hn hm h h' hc hk
    have ST := Lib.hid (two_rules w (.int .i64 k) (.int .i64 r) (.slice p n c) (.int .i64 k') (.int .i64 r') (.slice q m d))
    go_enter Tryz.func6, Tryz.ntmps6
    go_upto_region 1 with fail
    obtain ⟨w0, hw0⟩ : ∃ w0, w0 = (w.alloc (.cells #[.int .i64 k, .int .i64 r, .slice p n c] 36)).alloc (.cells #[.int .i64 k', .int .i64 r', .slice q m d] 36) := ⟨_, rfl⟩
    rw [← hw0]
    obtain ⟨hb0, hE0, hF0⟩ := ST.out w0 hw0
    have HE := Lib.hid (And.intro hE0 (And.intro hF0 hb0))
    clear hw0 hE0 hb0 hF0
    go_wp2_with fail
    refine (awakeF w0 A (H.out.1.below HE.out.2.2)).mono ?_
    rintro e w1 ⟨rfl, hb1⟩
    have H1 := Lib.hid (And.intro (HE.out.1.next hb1) (And.intro (HE.out.2.1.next hb1) (HE.out.2.2.trans (hb1.mono HE.out.2.2.size))))
    clear hb1
    obtain ⟨_, hc0, hc1, hc2⟩ := H1.out.1.facts
    go_wp2_with fail
    refine (fnarrow_bad k r p n c t w1 A (H.out.1.below H1.out.2.2) H.out.2.1 (H.out.2.2.2.1.next H1.out.2.2) i H.out.2.2.2.2.2.2).mono ?_
    rintro e y ⟨b, rfl, _, hy⟩
    rw [noRule_eq]
    clear hc0 hc1 hc2
    go_upto_region 4 with fail
    obtain ⟨z1, hz⟩ : ∃ x, x = y.alloc (.cells #[.int .i64 0, .int .i64 0, .slice none 0 0] 36) := ⟨_, rfl⟩
    obtain ⟨hbz, hEz⟩ := start_rule y (.int .i64 0) (.int .i64 0) (.slice none 0 0) z1 hz
    rw [← hz]
    obtain ⟨hz1, hhz⟩ : ∃ x, y.heap.size = x := ⟨_, rfl⟩
    rw [hhz] at hEz ⊢
    have hyz := hy.trans (hbz.mono hy.size)
    have J := Lib.hid (H1.out.2.2.trans (hyz.mono H1.out.2.2.size))
    have E := Lib.hid (And.intro (H1.out.1.next hyz) (H1.out.2.1.next hyz))
    clear hz hbz hEz hyz hhz hy
    obtain ⟨_, hc0, hc1, hc2⟩ := E.out.2.facts
    go_wp2_with fail
    refine (fnarrow_any k' r' q m d u z1 A (H.out.1.below J.out) H.out.2.2.1 (H.out.2.2.2.2.1.next J.out)).mono ?_
    rintro e y ⟨k3, r3, p3, n3, c3, v3, rfl, hy⟩
    clear hc0 hc1 hc2
    go_upto_region 5 with fail
    obtain ⟨z2, hz⟩ : ∃ x, x = y.alloc (.cells #[.int .i64 k3, .int .i64 r3, .slice p3 n3 c3] 36) := ⟨_, rfl⟩
    obtain ⟨hbz, hEz⟩ := start_rule y (.int .i64 k3) (.int .i64 r3) (.slice p3 n3 c3) z2 hz
    rw [← hz]
    obtain ⟨hz2, hhz⟩ : ∃ x, y.heap.size = x := ⟨_, rfl⟩
    rw [hhz] at hEz ⊢
    have hyz := hy.trans (hbz.mono hy.size)
    have J2 := Lib.hid (J.out.trans (hyz.mono J.out.size))
    have E2 := Lib.hid (And.intro (E.out.1.next hyz) (E.out.2.next hyz))
    clear hz hbz hEz hyz hhz hy
    obtain ⟨_, hc0, hc1, hc2⟩ := E2.out.1.facts
    obtain ⟨_, hd0, hd1, hd2⟩ := E2.out.2.facts
    go_wp2_with fail
    refine (fsame_bad k r k' r' p q n c m d t u z2 A (H.out.1.below J2.out) H.out.2.1 H.out.2.2.1 (H.out.2.2.2.1.next J2.out) (H.out.2.2.2.2.1.next J2.out) L z H.out.2.2.2.2.2.1).mono ?_
    rintro e y ⟨b2, rfl, _, hy⟩
    have JZ := Lib.hid (J2.out.trans (hy.mono J2.out.size))
    clear hy hc0 hc1 hc2 hd0 hd1 hd2
    go_wp2_with fail
    go_ret
    exact ⟨rfl, JZ.out⟩
  | none =>
    obtain ⟨K, R, rfl, rfl, ho⟩ := chkR_none hk
    have hk' : ∃ i, chkR k' r' u = some i := by
      unfold chkF2 at hc
      rw [hk] at hc
      obtain ⟨i, hi, _⟩ := Option.map_eq_some_iff.1 hc
      exact ⟨i, hi⟩
    obtain ⟨i, hi⟩ := hk'
    have H := Lib.hid (And.intro hr (And.intro hn (And.intro hm (And.intro h (And.intro h' (And.intro hc (And.intro ho hi)))))))
    clear hr hn hm h h' hc hk ho hi
    have ST := Lib.hid (two_rules w (.int .i64 (K : Int)) (.int .i64 (R : Int)) (.slice p n c) (.int .i64 k') (.int .i64 r') (.slice q m d))
    go_enter Tryz.func6, Tryz.ntmps6
    go_upto_region 1 with fail
    obtain ⟨w0, hw0⟩ : ∃ w0, w0 = (w.alloc (.cells #[.int .i64 (K : Int), .int .i64 (R : Int), .slice p n c] 36)).alloc (.cells #[.int .i64 k', .int .i64 r', .slice q m d] 36) := ⟨_, rfl⟩
    rw [← hw0]
    obtain ⟨hb0, hE0, hF0⟩ := ST.out w0 hw0
    have HE := Lib.hid (And.intro hE0 (And.intro hF0 hb0))
    clear hw0 hE0 hb0 hF0
    go_wp2_with fail
    refine (awakeF w0 A (H.out.1.below HE.out.2.2)).mono ?_
    rintro e w1 ⟨rfl, hb1⟩
    have H1 := Lib.hid (And.intro (HE.out.1.next hb1) (And.intro (HE.out.2.1.next hb1) (HE.out.2.2.trans (hb1.mono HE.out.2.2.size))))
    clear hb1
    obtain ⟨_, hc0, hc1, hc2⟩ := H1.out.1.facts
    go_wp2_with fail
    refine (fnarrow_ok K R p n c t w1 H.out.2.1 (H.out.2.2.2.1.next H1.out.2.2) H.out.2.2.2.2.2.2.1).mono ?_
    rintro e y ⟨s3, u3, _, p3, c3, rfl, _, hy⟩
    obtain ⟨n3, hn3⟩ : ∃ l, u3.length = l := ⟨_, rfl⟩
    rw [hn3]
    clear hn3
    clear hc0 hc1 hc2
    go_upto_region 4 with fail
    obtain ⟨z1, hz⟩ : ∃ x, x = y.alloc (.cells #[.int .i64 (K : Int), .int .i64 (s3 : Int), .slice p3 n3 c3] 36) := ⟨_, rfl⟩
    obtain ⟨hbz, hEz⟩ := start_rule y (.int .i64 (K : Int)) (.int .i64 (s3 : Int)) (.slice p3 n3 c3) z1 hz
    rw [← hz]
    obtain ⟨hz1, hhz⟩ : ∃ x, y.heap.size = x := ⟨_, rfl⟩
    rw [hhz] at hEz ⊢
    have hyz := hy.trans (hbz.mono hy.size)
    have J := Lib.hid (H1.out.2.2.trans (hyz.mono H1.out.2.2.size))
    have E := Lib.hid (And.intro (H1.out.1.next hyz) (H1.out.2.1.next hyz))
    clear hz hbz hEz hyz hhz hy
    obtain ⟨_, hc0, hc1, hc2⟩ := E.out.2.facts
    go_wp2_with fail
    refine (fnarrow_bad k' r' q m d u z1 A (H.out.1.below J.out) H.out.2.2.1 (H.out.2.2.2.2.1.next J.out) i H.out.2.2.2.2.2.2.2).mono ?_
    rintro e y ⟨b, rfl, _, hy⟩
    rw [noRule_eq]
    clear hc0 hc1 hc2
    go_upto_region 5 with fail
    obtain ⟨z2, hz⟩ : ∃ x, x = y.alloc (.cells #[.int .i64 0, .int .i64 0, .slice none 0 0] 36) := ⟨_, rfl⟩
    obtain ⟨hbz, hEz⟩ := start_rule y (.int .i64 0) (.int .i64 0) (.slice none 0 0) z2 hz
    rw [← hz]
    obtain ⟨hz2, hhz⟩ : ∃ x, y.heap.size = x := ⟨_, rfl⟩
    rw [hhz] at hEz ⊢
    have hyz := hy.trans (hbz.mono hy.size)
    have J2 := Lib.hid (J.out.trans (hyz.mono J.out.size))
    have E2 := Lib.hid (And.intro (E.out.1.next hyz) (E.out.2.next hyz))
    clear hz hbz hEz hyz hhz hy
    obtain ⟨_, hc0, hc1, hc2⟩ := E2.out.1.facts
    obtain ⟨_, hd0, hd1, hd2⟩ := E2.out.2.facts
    go_wp2_with fail
    refine (fsame_bad (K : Int) (R : Int) k' r' p q n c m d t u z2 A (H.out.1.below J2.out) H.out.2.1 H.out.2.2.1 (H.out.2.2.2.1.next J2.out) (H.out.2.2.2.2.1.next J2.out) L z H.out.2.2.2.2.2.1).mono ?_
    rintro e y ⟨b2, rfl, _, hy⟩
    have JZ := Lib.hid (J2.out.trans (hy.mono J2.out.size))
    clear hy hc0 hc1 hc2 hd0 hd1 hd2
    go_wp2_with fail
    go_ret
    exact ⟨rfl, JZ.out⟩

theorem quarter (x : Int) (h1 : -9223372036854775808 ≤ x) (h2 : x ≤ 9223372036854775807) : ∃ D : Nat, D ≤ 3 ∧ -3 ≤ x.tmod 4 ∧ x.tmod 4 ≤ 3 ∧ (x.tmod 4 + 4).tmod 4 = (D : Int) := by
  have hb : -3 ≤ x.tmod 4 ∧ x.tmod 4 ≤ 3 := by
    rcases (by omega : 0 ≤ x ∨ x < 0) with h | h
    · rw [Int.tmod_eq_emod_of_nonneg h]; omega
    · obtain ⟨m, rfl⟩ : ∃ m : Int, x = -m := ⟨-x, by omega⟩
      rw [Int.neg_tmod, Int.tmod_eq_emod_of_nonneg (by omega)]; omega
  refine ⟨((x.tmod 4 + 4) % 4).toNat, by omega, hb.1, hb.2, ?_⟩
  rw [Int.tmod_eq_emod_of_nonneg (by omega)]; omega
set_option maxRecDepth 100000 in
set_option maxHeartbeats 32000000 in
theorem sames_ok (K R K' R' : Nat) (x : Int) (p q : Option Addr) (n c m d : Nat) (t u : List Int) (w : World) (A : Nat → Addr) (hr : Roots w A) (hT : TypeVar w) (hn : n = t.length) (hm : m = u.length) (h : IntV w.heap.size w p c t) (h' : IntV w.heap.size w q d u) (ho : OkR K R t) (hu : OkR K' R' u) (hx1 : -9223372036854775808 ≤ x) (hx2 : x ≤ 9223372036854775807) :
    Calls Tryz.prog 6 #[.agg #[.int .i64 (K : Int), .int .i64 (R : Int), .slice p n c], .agg #[.int .i64 (K' : Int), .int .i64 (R' : Int), .slice q m d], .int .i64 x] w (Tells (.bool true) w) := by
  have hR3 := ho.r3
  obtain ⟨D, hD3, q1, q2, q3⟩ := quarter x hx1 hx2
  obtain ⟨x4, hx4⟩ : ∃ y, x.tmod 4 = y := ⟨_, rfl⟩
  rw [hx4] at q1 q2 q3
  have wx4 : IntKind.i64.wrap (x4 + 4) = x4 + 4 := by rw [IntWalk.i64_in _ (by omega)]
  obtain ⟨S, hS⟩ : ∃ s, R + D = s := ⟨_, rfl⟩
  have wS : IntKind.i64.wrap ((R : Int) + (D : Int)) = (S : Int) := by rw [IntWalk.i64_in _ (by omega)]; omega
  have H := Lib.hid (And.intro hr (And.intro hn (And.intro hm (And.intro h (And.intro h' (And.intro hT (And.intro ho (And.intro hu hS))))))))
  clear hr hT hn hm h h' ho hu q1 q2 hx1 hx2
  have ST := Lib.hid (two_rules w (.int .i64 (K : Int)) (.int .i64 (R : Int)) (.slice p n c) (.int .i64 (K' : Int)) (.int .i64 (R' : Int)) (.slice q m d))
  go_enter Tryz.func6, Tryz.ntmps6
  go_upto_region 1 with fail
  obtain ⟨w0, hw0⟩ : ∃ w0, w0 = (w.alloc (.cells #[.int .i64 (K : Int), .int .i64 (R : Int), .slice p n c] 36)).alloc (.cells #[.int .i64 (K' : Int), .int .i64 (R' : Int), .slice q m d] 36) := ⟨_, rfl⟩
  rw [← hw0]
  obtain ⟨hb0, hE0, hF0⟩ := ST.out w0 hw0
  have HE := Lib.hid (And.intro hE0 (And.intro hF0 hb0))
  clear hw0 hE0 hb0 hF0
  go_wp2_with fail
  refine (awakeF w0 A (H.out.1.below HE.out.2.2)).mono ?_
  rintro e w1 ⟨rfl, hb1⟩
  have H1 := Lib.hid (And.intro (HE.out.1.next hb1) (And.intro (HE.out.2.1.next hb1) (HE.out.2.2.trans (hb1.mono HE.out.2.2.size))))
  clear hb1
  obtain ⟨_, hc0, hc1, hc2⟩ := H1.out.1.facts
  go_wp2_with fail
  refine (fnarrow_ok K R p n c t w1 H.out.2.1 (H.out.2.2.2.1.next H1.out.2.2) H.out.2.2.2.2.2.2.1).mono ?_
  rintro e y ⟨sa, ua, hNa, pa, ca, rfl, hoa, hy⟩
  obtain ⟨la, hla⟩ : ∃ l, ua.length = l := ⟨_, rfl⟩
  rw [hla]
  have NA := Lib.hid (And.intro hNa hla)
  clear hc0 hc1 hc2 hNa hla
  go_upto_region 4 with fail
  obtain ⟨z1, hz⟩ : ∃ x, x = y.alloc (.cells #[.int .i64 (K : Int), .int .i64 (sa : Int), .slice pa la ca] 36) := ⟨_, rfl⟩
  obtain ⟨hbz, hEz⟩ := start_rule y (.int .i64 (K : Int)) (.int .i64 (sa : Int)) (.slice pa la ca) z1 hz
  rw [← hz]
  obtain ⟨hz1, hhz⟩ : ∃ x, y.heap.size = x := ⟨_, rfl⟩
  rw [hhz] at hEz ⊢
  have hyz := hy.trans (hbz.mono hy.size)
  have J := Lib.hid (H1.out.2.2.trans (hyz.mono H1.out.2.2.size))
  have E := Lib.hid (And.intro (H1.out.1.next hyz) (H1.out.2.1.next hyz))
  have M := Lib.hid (And.intro hEz (hoa.next hbz).toV)
  clear hz hbz hEz hyz hhz hy hoa
  obtain ⟨_, hc0, hc1, hc2⟩ := E.out.2.facts
  go_wp2_with fail
  refine (fnarrow_ok K' R' q m d u z1 H.out.2.2.1 (H.out.2.2.2.2.1.next J.out) H.out.2.2.2.2.2.2.2.1).mono ?_
  rintro e y ⟨sb, ub, hNb, pb, cb, rfl, hob, hy⟩
  obtain ⟨lb, hlb⟩ : ∃ l, ub.length = l := ⟨_, rfl⟩
  rw [hlb]
  have NB := Lib.hid (And.intro hNb hlb)
  clear hc0 hc1 hc2 hNb hlb
  go_upto_region 5 with fail
  obtain ⟨z2, hz⟩ : ∃ x, x = y.alloc (.cells #[.int .i64 (K' : Int), .int .i64 (sb : Int), .slice pb lb cb] 36) := ⟨_, rfl⟩
  obtain ⟨hbz, hEz⟩ := start_rule y (.int .i64 (K' : Int)) (.int .i64 (sb : Int)) (.slice pb lb cb) z2 hz
  rw [← hz]
  obtain ⟨hz2, hhz⟩ : ∃ x, y.heap.size = x := ⟨_, rfl⟩
  rw [hhz] at hEz ⊢
  have hyz := hy.trans (hbz.mono hy.size)
  have J2 := Lib.hid (J.out.trans (hyz.mono J.out.size))
  have E2 := Lib.hid (And.intro (E.out.1.next hyz) (E.out.2.next hyz))
  have M2 := Lib.hid (And.intro (M.out.1.next hyz) (M.out.2.next hyz))
  have N2 := Lib.hid (And.intro hEz (hob.next hbz).toV)
  clear hz hbz hEz hyz hhz hy hob
  obtain ⟨_, hc0, hc1, hc2⟩ := E2.out.1.facts
  obtain ⟨_, hd0, hd1, hd2⟩ := E2.out.2.facts
  go_wp2_with fail
  refine (fsame_ok K R K' R' p q n c m d t u z2 H.out.2.1 H.out.2.2.1 (H.out.2.2.2.1.next J2.out) (H.out.2.2.2.2.1.next J2.out) H.out.2.2.2.2.2.2.1 H.out.2.2.2.2.2.2.2.1).mono ?_
  rintro e x1 ⟨B, rfl, hB, hy⟩
  have J3 := Lib.hid (J2.out.trans (hy.mono J2.out.size))
  have E3 := Lib.hid (And.intro (E2.out.1.next hy) (E2.out.2.next hy))
  have M3 := Lib.hid (And.intro (M2.out.1.next hy) (M2.out.2.next hy))
  have N3 := Lib.hid (And.intro (N2.out.1.next hy) (N2.out.2.next hy))
  have HB := Lib.hid hB
  clear hy hB hc0 hc1 hc2 hd0 hd1 hd2
  obtain ⟨_, hc0, hc1, hc2⟩ := E3.out.1.facts
  obtain ⟨_, hg0, hg1, hg2⟩ := M3.out.1.facts
  go_wp2_with fail
  refine (fsame_ok K R K sa p pa n c la ca t ua x1 H.out.2.1 NA.out.2.symm (H.out.2.2.2.1.next J3.out) M3.out.2 H.out.2.2.2.2.2.2.1 NA.out.1.ok).mono ?_
  rintro e x2 ⟨B2, rfl, hB2, hy⟩
  obtain rfl : B2 = true := hB2.2 ⟨sa, ua, sa, ua, NA.out.1, NA.out.1.self hR3, rfl, rfl, rfl⟩
  have J4 := Lib.hid (J3.out.trans (hy.mono J3.out.size))
  have E4 := Lib.hid (And.intro (E3.out.1.next hy) (E3.out.2.next hy))
  have M4 := Lib.hid (And.intro (M3.out.1.next hy) (M3.out.2.next hy))
  have N4 := Lib.hid (And.intro (N3.out.1.next hy) (N3.out.2.next hy))
  clear hy hB2 hc0 hc1 hc2 hg0 hg1 hg2
  obtain ⟨_, hg0, hg1, hg2⟩ := M4.out.1.facts
  go_wp2_with fail
  refine (fnarrow_ok K sa pa la ca ua x2 NA.out.2.symm M4.out.2 NA.out.1.ok).mono ?_
  rintro e y ⟨sc, uc, hNc, pc, cc, rfl, hoc, hy⟩
  obtain ⟨hs', hu'⟩ := hNc.unique (NA.out.1.self hR3)
  subst hs' hu'
  rw [NA.out.2]
  clear hNc hg0 hg1 hg2
  go_upto_region 11 with fail
  obtain ⟨z3, hz⟩ : ∃ x, x = y.alloc (.cells #[.int .i64 (K : Int), .int .i64 (sc : Int), .slice pc la cc] 36) := ⟨_, rfl⟩
  obtain ⟨hbz, hEz⟩ := start_rule y (.int .i64 (K : Int)) (.int .i64 (sc : Int)) (.slice pc la cc) z3 hz
  rw [← hz]
  obtain ⟨hz3, hhz⟩ : ∃ x, y.heap.size = x := ⟨_, rfl⟩
  rw [hhz] at hEz ⊢
  have hyz := hy.trans (hbz.mono hy.size)
  have J5 := Lib.hid (J4.out.trans (hyz.mono J4.out.size))
  have E5 := Lib.hid (And.intro (E4.out.1.next hyz) (E4.out.2.next hyz))
  have M5 := Lib.hid (And.intro (M4.out.1.next hyz) (M4.out.2.next hyz))
  have N5 := Lib.hid (And.intro (N4.out.1.next hyz) (N4.out.2.next hyz))
  have Q5 := Lib.hid (And.intro hEz (hoc.next hbz).toV)
  clear hz hbz hEz hyz hhz hy hoc
  obtain ⟨_, hg0, hg1, hg2⟩ := M5.out.1.facts
  obtain ⟨_, hi0, hi1, hi2⟩ := N5.out.1.facts
  go_wp2_with fail
  refine (rules_any (K : Int) (sc : Int) (K' : Int) (sb : Int) pa pb la lb ca cb uc ub z3 NA.out.2.symm NB.out.2.symm M5.out.2 N5.out.2).mono ?_
  rintro e x3 ⟨B3, rfl, hB3, hy⟩
  obtain rfl : B3 = B := by
    have h1 : B3 = true ↔ B = true := by
      rw [hB3, HB.out]
      constructor
      · rintro ⟨e1, e2, e3⟩
        exact ⟨sc, uc, sb, ub, NA.out.1, NB.out.1, by omega, by omega, e3⟩
      · rintro ⟨s1, v1, s2, v2, h1, h2, e1, e2, e3⟩
        obtain ⟨rfl, rfl⟩ := h1.unique NA.out.1
        obtain ⟨rfl, rfl⟩ := h2.unique NB.out.1
        exact ⟨by omega, by omega, e3⟩
    cases B3 <;> cases B <;> simp_all
  have J6 := Lib.hid (J5.out.trans (hy.mono J5.out.size))
  have E6 := Lib.hid (And.intro (E5.out.1.next hy) (E5.out.2.next hy))
  have M6 := Lib.hid (And.intro (M5.out.1.next hy) (M5.out.2.next hy))
  have Q6 := Lib.hid (And.intro (Q5.out.1.next hy) (Q5.out.2.next hy))
  clear hy hB3 HB hg0 hg1 hg2 hi0 hi1 hi2
  obtain ⟨_, hg0, hg1, hg2⟩ := M6.out.1.facts
  obtain ⟨_, hi0, hi1, hi2⟩ := Q6.out.1.facts
  obtain ⟨_, hc0, hc1, hc2⟩ := E6.out.1.facts
  have hBB : (B3 != B3) = false := by simp
  go_wp2_with fail
  refine (rules_same (K : Int) (sc : Int) pc pa la cc ca uc x3 NA.out.2.symm Q6.out.2 M6.out.2).mono ?_
  rintro e x5 ⟨rfl, hy⟩
  have J7 := Lib.hid (J6.out.trans (hy.mono J6.out.size))
  have E7 := Lib.hid (E6.out.1.next hy)
  have M7 := Lib.hid (And.intro (M6.out.1.next hy) (M6.out.2.next hy))
  clear hy hg0 hg1 hg2 hi0 hi1 hi2 hc0 hc1 hc2
  obtain ⟨_, hg0, hg1, hg2⟩ := M7.out.1.facts
  obtain ⟨_, hc0, hc1, hc2⟩ := E7.out.facts
  have hle : ¬ (R : Int) < (sc : Int) := by have := NA.out.1.le; omega
  by_cases hbig : 3 < S
  · have hbig' : (3 : Int) < (S : Int) := by omega
    have HS := Lib.hid hbig
    clear hbig
    go_wp2_with fail
    refine (fwiden_arg K R (S : Int) p n c t x5 A (H.out.1.below J7.out) H.out.2.1 (H.out.2.2.2.1.next J7.out) H.out.2.2.2.2.2.2.1 (Or.inr (by have := HS.out; omega))).mono ?_
    rintro e y ⟨b, rfl, hl, hy⟩
    rw [noRule_eq]
    clear hc0 hc1 hc2 hg0 hg1 hg2
    go_upto_region 15 with fail
    obtain ⟨z4, hz⟩ : ∃ x, x = y.alloc (.cells #[.int .i64 0, .int .i64 0, .slice none 0 0] 36) := ⟨_, rfl⟩
    obtain ⟨hbz, hEz⟩ := start_rule y (.int .i64 0) (.int .i64 0) (.slice none 0 0) z4 hz
    rw [← hz]
    obtain ⟨hz4, hhz⟩ : ∃ x, y.heap.size = x := ⟨_, rfl⟩
    rw [hhz] at hEz ⊢
    have hyz := hy.trans (hbz.mono hy.size)
    have J8 := Lib.hid (J7.out.trans (hyz.mono J7.out.size))
    have C8 := Lib.hid (And.intro hEz (hl.next hbz))
    clear hz hbz hyz hhz hy hl hEz
    obtain ⟨_, hc0, hc1, hc2⟩ := C8.out.1.facts
    go_wp2_with fail
    refine (raw_new formsOp 0 3 z4).mono ?_
    rintro e z5 ⟨po, pa', rfl, hw, hy⟩
    have J9 := Lib.hid (J8.out.trans (hy.mono J8.out.size))
    have C9 := Lib.hid (And.intro (C8.out.2.next hy) hw)
    clear hy hw hc0 hc1 hc2
    have his := is_chn (A := A) (x := some ([(formsOp, 0)], 3)) (H.out.1.below J9.out) (H.out.2.2.2.2.2.1.below J9.out) (fun y hy => by obtain rfl := Option.some.inj hy; simp) (v := .iface 109 (.pointer (some ⟨b, 0, none⟩))) (a := 3) (po := po) (pa := pa') (n := 1) ⟨b, rfl, C9.out.1⟩ ⟨rfl, rfl, C9.out.2⟩
    have HI := Lib.hid his
    clear his
    go_wp2_with fail
    refine HI.out.mono ?_
    rintro e z6 ⟨rfl, hy⟩
    have JZ := Lib.hid (J9.out.trans (hy.mono J9.out.size))
    clear hy
    go_wp2_with fail
    go_ret
    exact ⟨rfl, JZ.out⟩
  · have hbig' : ¬ (3 : Int) < (S : Int) := by omega
    have hS3 : S ≤ 3 := by omega
    have hRS : R ≤ S := by have := H.out.2.2.2.2.2.2.2.2; omega
    have hXok := widT_ok H.out.2.2.2.2.2.2.1 hS3
    have hXn := NA.out.1.to_wid H.out.2.2.2.2.2.2.1 hRS hS3
    obtain ⟨X, hX⟩ : ∃ y, widT K R t S = y := ⟨_, rfl⟩
    have hwd := fwiden_ok K R S p n c t x5 H.out.2.1 (H.out.2.2.2.1.next J7.out) H.out.2.2.2.2.2.2.1 hRS hS3
    rw [hX] at hXok hXn hwd
    obtain ⟨lX, hlX⟩ : ∃ l, X.length = l := ⟨_, rfl⟩
    have HX := Lib.hid (And.intro hXok (And.intro hXn (And.intro hwd hlX)))
    clear hXok hXn hwd hX hlX hRS hbig hS3
    go_wp2_with fail
    refine HX.out.2.2.1.mono ?_
    rintro e y ⟨p9, c9, rfl, ho9, hy⟩
    rw [HX.out.2.2.2]
    clear hc0 hc1 hc2 hg0 hg1 hg2
    go_upto_region 15 with fail
    obtain ⟨z4, hz⟩ : ∃ x, x = y.alloc (.cells #[.int .i64 (K : Int), .int .i64 (S : Int), .slice p9 lX c9] 36) := ⟨_, rfl⟩
    obtain ⟨hbz, hEz⟩ := start_rule y (.int .i64 (K : Int)) (.int .i64 (S : Int)) (.slice p9 lX c9) z4 hz
    rw [← hz]
    obtain ⟨hz4, hhz⟩ : ∃ x, y.heap.size = x := ⟨_, rfl⟩
    rw [hhz] at hEz ⊢
    have hyz := hy.trans (hbz.mono hy.size)
    have J8 := Lib.hid (J7.out.trans (hyz.mono J7.out.size))
    have M8 := Lib.hid (And.intro (M7.out.1.next hyz) (M7.out.2.next hyz))
    have C8 := Lib.hid (And.intro hEz (ho9.next hbz).toV)
    clear hz hbz hEz hyz hhz hy ho9
    obtain ⟨_, hc0, hc1, hc2⟩ := C8.out.1.facts
    go_wp2_with fail
    refine (fnarrow_ok K S p9 lX c9 X z4 HX.out.2.2.2.symm C8.out.2 HX.out.1).mono ?_
    rintro e y ⟨sd, ud, hNd, pd, cd, rfl, hod, hy⟩
    obtain ⟨hs', hu'⟩ := hNd.unique HX.out.2.1
    subst hs' hu'
    rw [NA.out.2]
    clear hNd hc0 hc1 hc2
    go_upto_region 18 with fail
    obtain ⟨z5, hz⟩ : ∃ x, x = y.alloc (.cells #[.int .i64 (K : Int), .int .i64 (sd : Int), .slice pd la cd] 36) := ⟨_, rfl⟩
    obtain ⟨hbz, hEz⟩ := start_rule y (.int .i64 (K : Int)) (.int .i64 (sd : Int)) (.slice pd la cd) z5 hz
    rw [← hz]
    obtain ⟨hz5, hhz⟩ : ∃ x, y.heap.size = x := ⟨_, rfl⟩
    rw [hhz] at hEz ⊢
    have hyz := hy.trans (hbz.mono hy.size)
    have J9 := Lib.hid (J8.out.trans (hyz.mono J8.out.size))
    have M9 := Lib.hid (And.intro (M8.out.1.next hyz) (M8.out.2.next hyz))
    have C9 := Lib.hid (C8.out.1.next hyz)
    have D9 := Lib.hid (And.intro hEz (hod.next hbz).toV)
    clear hz hbz hEz hyz hhz hy hod
    obtain ⟨_, hc0, hc1, hc2⟩ := C9.out.facts
    obtain ⟨_, hg0, hg1, hg2⟩ := M9.out.1.facts
    obtain ⟨_, hi0, hi1, hi2⟩ := D9.out.1.facts
    go_wp2_with fail
    refine (rules_same (K : Int) (sd : Int) pd pa la cd ca ud z5 NA.out.2.symm D9.out.2 M9.out.2).mono ?_
    rintro e z6 ⟨rfl, hy⟩
    have JZ := Lib.hid (J9.out.trans (hy.mono J9.out.size))
    clear hy
    go_wp2_with fail
    go_ret
    exact ⟨rfl, JZ.out⟩
end Go.Proofs.YtienaogmljlmlaaGreatDoor
