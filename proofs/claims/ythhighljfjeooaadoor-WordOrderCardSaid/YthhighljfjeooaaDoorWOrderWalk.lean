/- WordOrder: its walk: whatever the alphabet and the two lists, it answers true and old memory stays. -/
import Derived.Test.YthhighljfjeooaaDoorLawWord
import Derived.Test.YthhighljfjeooaaDoorWordH
import Derived.Test.YthhighljfjeooaaDoorWordJ
namespace Go.Proofs.YthhighljfjeooaaDoor
open Go.RowKit Go.Extern.Stop Go.Stop Go.Extern WordM NatM

/-- numbers that are known beside the lists -/
structure Sn (w wx : World) (L : List Sl) (N : List (Option Addr × Nat × Nat)) : Prop where
  ints : Si w wx L
  nums : ∀ x : Option Addr × Nat × Nat, x ∈ N → NatV wx.heap.size wx x.1 x.2.1 (D32 x.2.2)
theorem Sn.next {w wx w' : World} {L : List Sl} {N : List (Option Addr × Nat × Nat)} (S : Sn w wx L N) (hb : Below wx.heap.size wx w') : Sn w w' L N :=
  ⟨S.ints.next hb, fun x hx => (S.nums x hx).next hb⟩
theorem Sn.push {w wx : World} {L : List Sl} {N : List (Option Addr × Nat × Nat)} (S : Sn w wx L N) {p : Option Addr} {c n : Nat} (h : NatV wx.heap.size wx p c (D32 n)) : Sn w wx L ((p, c, n) :: N) :=
  ⟨S.ints, fun x hx => by
    rcases List.mem_cons.1 hx with rfl | hx
    · exact h
    · exact S.nums x hx⟩
theorem Sn.pushI {w wx : World} {L : List Sl} {N : List (Option Addr × Nat × Nat)} (S : Sn w wx L N) {p : Option Addr} {c : Nat} {l : List Int} (h : IntV wx.heap.size wx p c l) : Sn w wx ((p, c, l) :: L) N :=
  ⟨S.ints.push h, S.nums⟩
theorem Sn.num {w wx : World} {L : List Sl} {N : List (Option Addr × Nat × Nat)} (S : Sn w wx L N) (i : Nat) {p : Option Addr} {c n : Nat} (h : N[i]? = some (p, c, n)) : NatV wx.heap.size wx p c (D32 n) := S.nums _ (List.mem_of_getElem? h)
theorem cmp_nums {p q : Option Addr} {c d m n : Nat} {w : World} {r : Int} (h : NatV w.heap.size w p c (D32 m)) (k : NatV w.heap.size w q d (D32 n)) (hr : cmpN m n = r) :
    Calls Tryd.prog 19 #[.slice p (D32 m).length c, .slice q (D32 n).length d] w (Tells (.int .i64 r) w) := by
  have h0 := cmp_any p q c d (D32 m) (D32 n) w h k
  have hv : cmpV (D32 m) (D32 n) = .int .i64 r := by unfold cmpV; rw [V32_D32, V32_D32, hr]
  rwa [hv] at h0
/-- the order of two words of one length is that of their numbers -/
theorem cmp_words {k : Nat} {a b : List Int} (hl : a.length = b.length) (ha : okW k a) (hb : okW k b) : cmpN (valW k a) (valW k b) = cmpW a b := by
  rw [cmpW_len hl]
  rcases lex_val hl ha hb with ⟨h1, h2⟩ | ⟨h1, h2⟩ | ⟨h1, h2⟩
  · rw [h1, cmp_lt h2]
  · rw [h1, h2, cmp_eq]
  · rw [h1, cmp_gt h2]

set_option maxRecDepth 100000 in
set_option maxHeartbeats 8000000 in
theorem worder_bad1 (k : Int) (p q : Option Addr) (n m c d : Nat) (a : List Int) (w : World) (A : Nat → Addr) (hr : Roots w A) (hn : n = a.length) (ha : IntV w.heap.size w p c a) (i j : Nat) (hc : chkW k a = some (i, j)) :
    Calls Tryd.prog 5 #[.int .i64 k, .slice p n c, .slice q m d] w (Tells (.bool true) w) := by
  have H := Lib.hid (And.intro hr (And.intro hn (And.intro ha hc)))
  clear hr hn ha hc
  go_enter Tryd.func5, Tryd.ntmps5
  go_wp2_with fail
  refine (awakeW _).mono ?_
  rintro e w1 ⟨rfl, hb1⟩
  have S1 := Lib.hid hb1
  clear hb1
  go_wp2_with fail
  refine (check_bad k p n c a w1 A (H.out.1.below S1.out) H.out.2.1 (H.out.2.2.1.next S1.out) i j H.out.2.2.2).mono ?_
  rintro e w2 ⟨b2, rfl, _, hb2⟩
  have S2 := Lib.hid (S1.out.trans (hb2.mono S1.out.size))
  clear hb2
  go_wp2_with fail
  go_ret
  exact ⟨rfl, S2.out⟩
set_option maxRecDepth 100000 in
set_option maxHeartbeats 8000000 in
theorem worder_bad2 (k : Int) (p q : Option Addr) (n m c d : Nat) (a b : List Int) (w : World) (A : Nat → Addr) (hr : Roots w A) (hn : n = a.length) (hm : m = b.length) (ha : IntV w.heap.size w p c a) (hb : IntV w.heap.size w q d b) (hca : chkW k a = none) (i j : Nat) (hc : chkW k b = some (i, j)) :
    Calls Tryd.prog 5 #[.int .i64 k, .slice p n c, .slice q m d] w (Tells (.bool true) w) := by
  have H := Lib.hid (And.intro hr (And.intro hn (And.intro ha (And.intro hc (And.intro hm (And.intro hb hca))))))
  clear hr hn ha hc hm hb hca
  go_enter Tryd.func5, Tryd.ntmps5
  go_wp2_with fail
  refine (awakeW _).mono ?_
  rintro e w1 ⟨rfl, hb1⟩
  have S1 := Lib.hid hb1
  clear hb1
  go_wp2_with fail
  refine (check_ok k p n c a w1 H.out.2.1 (H.out.2.2.1.next S1.out) H.out.2.2.2.2.2.2).mono ?_
  rintro e w2 ⟨rfl, hb2⟩
  have S2 := Lib.hid (S1.out.trans (hb2.mono S1.out.size))
  clear hb2
  go_wp2_with fail
  refine (check_bad k q m d b w2 A (H.out.1.below S2.out) H.out.2.2.2.2.1 (H.out.2.2.2.2.2.1.next S2.out) i j H.out.2.2.2.1).mono ?_
  rintro e w3 ⟨b3, rfl, _, hb3⟩
  have S3 := Lib.hid (S2.out.trans (hb3.mono S2.out.size))
  clear hb3
  go_wp2_with fail
  go_ret
  exact ⟨rfl, S3.out⟩
set_option maxRecDepth 100000 in
set_option maxHeartbeats 8000000 in
theorem worder_long (k : Int) (p q : Option Addr) (n m c d : Nat) (a b : List Int) (w : World) (hn : n = a.length) (hm : m = b.length) (ha : IntV w.heap.size w p c a) (hb : IntV w.heap.size w q d b) (hca : chkW k a = none) (hcb : chkW k b = none) (hl : 200 < n ∨ 200 < m) :
    Calls Tryd.prog 5 #[.int .i64 k, .slice p n c, .slice q m d] w (Tells (.bool true) w) := by
  have hn4 : n ≤ 4096 := by obtain ⟨_, _, _, _, h, _⟩ := chkW_none hca; omega
  have hm4 : m ≤ 4096 := by obtain ⟨_, _, _, _, h, _⟩ := chkW_none hcb; omega
  have H := Lib.hid (And.intro hn (And.intro ha (And.intro hcb (And.intro hm (And.intro hb hca)))))
  clear hn ha hcb hm hb hca
  have hd : (decide ((200 : Int) < (n : Int)) = true ∧ decide (200 < n) = true) ∨ ((decide ((200 : Int) < (n : Int)) = false ∧ decide (200 < n) = false) ∧ decide ((200 : Int) < (m : Int)) = true ∧ decide (200 < m) = true) := by
    by_cases h : 200 < n
    · left; simp; omega
    · right; simp; omega
  clear hl
  rcases hd with ⟨hd1, hd2⟩ | ⟨⟨hd1, hd2⟩, hd3, hd4⟩
  all_goals
    go_enter Tryd.func5, Tryd.ntmps5
    go_wp2_with fail
    refine (awakeW _).mono ?_
    rintro e w1 ⟨rfl, hb1⟩
    have S1 := Lib.hid hb1
    clear hb1
    go_wp2_with fail
    refine (check_ok k p n c a w1 H.out.1 (H.out.2.1.next S1.out) H.out.2.2.2.2.2).mono ?_
    rintro e w2 ⟨rfl, hb2⟩
    have S2 := Lib.hid (S1.out.trans (hb2.mono S1.out.size))
    clear hb2
    go_wp2_with fail
    refine (check_ok k q m d b w2 H.out.2.2.2.1 (H.out.2.2.2.2.1.next S2.out) H.out.2.2.1).mono ?_
    rintro e w3 ⟨rfl, hb3⟩
    have S3 := Lib.hid (S2.out.trans (hb3.mono S2.out.size))
    clear hb3
    go_wp2_with fail
    go_ret
    exact ⟨rfl, S3.out⟩
theorem cmpW_cases (a b : List Int) : cmpW a b = -1 ∨ cmpW a b = 0 ∨ cmpW a b = 1 := by
  unfold cmpW
  split
  · exact Or.inl rfl
  · split
    · exact Or.inr (Or.inr rfl)
    · exact lexC_cases a b
set_option maxRecDepth 100000 in
set_option maxHeartbeats 16000000 in
theorem worder_ok (k : Nat) (p q : Option Addr) (n m c d : Nat) (a b : List Int) (w : World) (hn : n = a.length) (hm : m = b.length) (ha : IntV w.heap.size w p c a) (hb : IntV w.heap.size w q d b) (hca : chkW k a = none) (hcb : chkW k b = none) (hn2 : n ≤ 200) (hm2 : m ≤ 200) :
    Calls Tryd.prog 5 #[.int .i64 (k : Int), .slice p n c, .slice q m d] w (Tells (.bool true) w) := by
  obtain ⟨k', hk', h1, h4, _, hoa⟩ := chkW_none hca
  obtain rfl : k = k' := by omega
  obtain ⟨k', hk'2, _, _, _, hob⟩ := chkW_none hcb
  obtain rfl : k = k' := by omega
  have hd1 : decide ((200 : Int) < (n : Int)) = false := by simp; omega
  have hd2 : decide (200 < n) = false := by simp; omega
  have hd3 : decide ((200 : Int) < (m : Int)) = false := by simp; omega
  have hd4 : decide (200 < m) = false := by simp; omega
  have H := Lib.hid (And.intro hn (And.intro hm (And.intro hca (And.intro hcb (And.intro hoa hob)))))
  have S0 := Lib.hid (Sn.mk (w := w) (N := []) (((Si.start w).push ha).push hb) (fun x h => by cases h))
  clear hn hm ha hb hca hcb hoa hob hk' hk'2
  go_enter Tryd.func5, Tryd.ntmps5
  go_wp2_with fail
  refine (awakeW _).mono ?_
  rintro e w1 ⟨rfl, hb1⟩
  have S1 := Lib.hid (S0.out.next hb1)
  clear hb1
  go_wp2_with fail
  refine (check_ok k p n c a w1 H.out.1 (S1.out.ints.get 1 rfl) H.out.2.2.1).mono ?_
  rintro e w2 ⟨rfl, hb2⟩
  have S2 := Lib.hid (S1.out.next hb2)
  clear hb2
  go_wp2_with fail
  refine (check_ok k q m d b w2 H.out.2.1 (S2.out.ints.get 0 rfl) H.out.2.2.2.1).mono ?_
  rintro e w3 ⟨rfl, hb3⟩
  have S3 := Lib.hid (S2.out.next hb3)
  clear hb3
  go_wp2_with fail
  refine (next_any k p n c a w3 H.out.1 (S3.out.ints.get 1 rfl) H.out.2.2.1 (Or.inl (by have := H.out.1; omega))).mono ?_
  rintro e w4 ⟨x, hx, p4, c4, rfl, ho4, hb4⟩
  have S4 := Lib.hid ((S3.out.next hb4).pushI ho4.toV)
  clear ho4 hb4
  have hxo := isNext_ok h1 hx H.out.2.2.2.2.1
  have hxv := isNext_val h1 hx H.out.2.2.2.2.1
  obtain ⟨nx, hnx⟩ : ∃ nx, x.length = nx := ⟨_, rfl⟩
  have hnx2 : nx ≤ 201 := by have := H.out.1; rcases hxv with ⟨h, _⟩ | ⟨h, _⟩ <;> omega
  have hcx : chkW k x = none := chkW_ok h1 h4 (by omega) hxo
  rw [hnx]
  rw [hnx] at hxv
  have HX := Lib.hid (And.intro hx (And.intro hxo (And.intro hxv (And.intro hnx hcx))))
  clear hx hxo hxv hnx hcx
  go_wp2_with fail
  refine (index_ok k p n c a w4 H.out.1 (S4.out.ints.get 2 rfl) H.out.2.2.1 (by omega)).mono ?_
  rintro e w5 ⟨p5, c5, rfl, ho5, hb5⟩
  have S5 := Lib.hid ((S4.out.next hb5).push ho5.toV)
  clear ho5 hb5
  go_wp2_with fail
  refine (index_ok k p4 nx c4 x w5 HX.out.2.2.2.1.symm (S5.out.ints.get 0 rfl) HX.out.2.2.2.2 (by omega)).mono ?_
  rintro e w6 ⟨p6, c6, rfl, ho6, hb6⟩
  have S6 := Lib.hid ((S5.out.next hb6).push ho6.toV)
  clear ho6 hb6
  go_wp2_with fail
  refine (index_ok k q m d b w6 H.out.2.1 (S6.out.ints.get 1 rfl) H.out.2.2.2.1 (by omega)).mono ?_
  rintro e w7 ⟨p7, c7, rfl, ho7, hb7⟩
  have S7 := Lib.hid ((S6.out.next hb7).push ho7.toV)
  clear ho7 hb7
  go_wp2_with fail
  refine (check_ok k p4 nx c4 x w7 HX.out.2.2.2.1.symm (S7.out.ints.get 0 rfl) HX.out.2.2.2.2).mono ?_
  rintro e w8 ⟨rfl, hb8⟩
  have S8 := Lib.hid (S7.out.next hb8)
  clear hb8
  go_wp2_with fail
  refine (cmp_w p p4 n nx c c4 a x w8 H.out.1 HX.out.2.2.2.1.symm (S8.out.ints.get 2 rfl) (S8.out.ints.get 0 rfl)).mono ?_
  rintro e w' ⟨rfl, rfl⟩
  rw [isNext_cmp h1 HX.out.1 H.out.2.2.2.2.1]
  have hvl : (D32 (valW k a)).length ≤ 100000 := by have := valW_len h4 H.out.2.2.2.2.1; have := H.out.1; omega
  obtain ⟨va, hva⟩ : ∃ v, valW k a = v := ⟨_, rfl⟩
  obtain ⟨vx, hvx⟩ : ∃ v, valW k x = v := ⟨_, rfl⟩
  obtain ⟨vb, hvb⟩ : ∃ v, valW k b = v := ⟨_, rfl⟩
  have hxv := HX.out.2.2.1
  rw [hva, hvx] at hxv
  rw [hva] at hvl
  rw [hva, hvx, hvb] at S8
  rw [hva, hvx, hvb]
  have HV := Lib.hid (And.intro hva (And.intro hvx (And.intro hvb hvl)))
  clear hva hvx hvb hvl S0 S1 S2 S3 S4 S5 S6 S7
  have hmx : max (k : Int) 0 % 4294967296 = (k : Int) := by omega
  rcases hxv with ⟨hxl, hxv⟩ | ⟨hxl, hxv, hxf⟩
  case' inl =>
    obtain rfl : n = nx := by have := H.out.1; omega
    have HZ := Lib.hid hxv
    clear hxl hxv
    go_wp2_with fail
    refine (from_any 1 w8 (by omega)).mono ?_
    rintro e w9 ⟨p9, c9, rfl, ho9, hb9⟩
    have h9l : (D32 1).length ≤ 100000 := by have := D32_len (n := 1) (k := 1) (by omega); omega
    have hadd := add_any p5 p9 c5 c9 (D32 va) (D32 1) w9 ((S8.out.next hb9).num 2 rfl) ho9.toV HV.out.2.2.2 h9l
    rw [V32_D32, V32_D32] at hadd
    have S9 := Lib.hid (And.intro (S8.out.next hb9) hadd)
    clear ho9 hb9 h9l hadd
    go_wp2_with fail
    refine S9.out.2.mono ?_
    rintro e w10 ⟨p10, c10, rfl, ho10, hb10⟩
    have S10 := Lib.hid ((S9.out.1.next hb10).push ho10.toV)
    clear ho10 hb10
    go_wp2_with fail
    refine (cmp_nums (S10.out.num 2 rfl) (S10.out.num 0 rfl) (r := 0) (by rw [HZ.out, cmp_eq])).mono ?_
    rintro e w11 ⟨rfl, hb11⟩
    have S11 := Lib.hid (S10.out.next hb11)
    clear hb11
    go_wp2_with fail
    try rw [hmx]
    refine (pow_any k n (by omega) (by omega) w11).mono ?_
    rintro e w12 ⟨p12, c12, rfl, ho12, hb12⟩
    have S12 := Lib.hid (S11.out.next hb12)
    have T := Lib.hid (And.intro S12.out.ints (And.intro (S12.out.num 3 rfl) (S12.out.num 1 rfl)))
    clear ho12 hb12 S12 S11 S10 S9 S8
    go_upto_region 16 with fail
  case' inr =>
    obtain rfl : nx = n + 1 := by have := H.out.1; omega
    have h0 : (D32 vx).length = 0 := by rw [hxv, D32_nil.2 rfl]; rfl
    have HZ := Lib.hid (And.intro hxf h0)
    have hne : (((n : Int) + 1) == (n : Int)) = false := by rw [beq_eq_false_iff_ne]; omega
    have hne2 : (((n : Int) + 1) != (n : Int)) = true := by rw [bne_iff_ne]; omega
    rw [h0]
    clear hxl hxv hxf h0
    go_wp2_with fail
    try rw [hmx]
    refine (pow_any k n (by omega) (by omega) w8).mono ?_
    rintro e w9 ⟨p9, c9, rfl, ho9, hb9⟩
    have S9 := Lib.hid ((S8.out.next hb9).push ho9.toV)
    clear ho9 hb9
    go_wp2_with fail
    refine (from_any 1 w9 (by omega)).mono ?_
    rintro e w10 ⟨p10, c10, rfl, ho10, hb10⟩
    have h9l : (D32 1).length ≤ 100000 := by have := D32_len (n := 1) (k := 1) (by omega); omega
    have hadd := add_any p5 p10 c5 c10 (D32 va) (D32 1) w10 ((S9.out.next hb10).num 3 rfl) ho10.toV HV.out.2.2.2 h9l
    rw [V32_D32, V32_D32] at hadd
    have S10 := Lib.hid (And.intro (S9.out.next hb10) hadd)
    clear ho10 hb10 h9l hadd
    go_wp2_with fail
    refine S10.out.2.mono ?_
    rintro e w11 ⟨p11, c11, rfl, ho11, hb11⟩
    have S11 := Lib.hid ((S10.out.1.next hb11).push ho11.toV)
    clear ho11 hb11
    go_wp2_with fail
    refine (cmp_nums (S11.out.num 0 rfl) (S11.out.num 1 rfl) (r := 0) (by rw [HZ.out.1, ← H.out.1, cmp_eq])).mono ?_
    rintro e w12 ⟨rfl, hb12⟩
    have S12 := Lib.hid (S11.out.next hb12)
    have T := Lib.hid (And.intro S12.out.ints (And.intro (S12.out.num 4 rfl) (S12.out.num 2 rfl)))
    clear hb12 S12 S11 S10 S9 S8
    go_upto_region 16 with fail
  all_goals
    go_wp2_with fail
    have hcw := cmp_w p q _ m c d a b w12 H.out.1 H.out.2.1 (T.out.1.get 2 rfl) (T.out.1.get 1 rfl)
    have hcv := fun (N : Nat) (W : World) => cmp_w q p m N d c b a W
    have hsw := cmpW_swap a b
    have hbt := isNext_between h1 HX.out.1 H.out.2.2.2.2.1 H.out.2.2.2.2.2
    obtain ⟨r, hr⟩ : ∃ r, cmpW x b = r := ⟨_, rfl⟩
    rw [hr] at hbt
    have hcr := fun (N : Nat) (W : World) => cmp_w p4 q N m c4 d x b W
    simp only [hr] at hcr
    have hcases := cmpW_cases a b
    have hnum : n = m → cmpN va vb = cmpW a b := fun e => by rw [← HV.out.1, ← HV.out.2.2.1, cmp_words (by rw [← H.out.1, ← H.out.2.1, e]) H.out.2.2.2.2.1 H.out.2.2.2.2.2]
    have hnn : ∀ W : World, NatV W.heap.size W p5 c5 (D32 va) → NatV W.heap.size W p7 c7 (D32 vb) → n = m → Calls Tryd.prog 19 #[.slice p5 (D32 va).length c5, .slice p7 (D32 vb).length c7] W (Tells (.int .i64 (cmpW a b)) W) := fun W k1 k2 e => cmp_nums k1 k2 (hnum e)
    clear hr hnum
    rcases hcases with hc | hc | hc
    all_goals
      rw [hc] at hcw hsw hbt hnn
      simp only [hsw] at hcv
      have HC := Lib.hid (And.intro hcw (And.intro hcv (And.intro hcr hnn)))
      have HBT := Lib.hid hbt
      clear hcw hcv hcr hnn hsw hc hbt
      go_wp2_with fail
      refine HC.out.1.mono ?_
      rintro e w' ⟨rfl, rfl⟩
      by_cases hnm : n = m
      case' pos =>
        subst hnm
        go_wp2_with fail
        refine (HC.out.2.2.2 _ T.out.2.1 T.out.2.2 (by first | rfl | trivial)).mono ?_
        rintro e w13 ⟨rfl, hb13⟩
        have T2 := Lib.hid (T.out.1.next hb13)
        clear hb13
        go_wp2_with fail
        refine (HC.out.2.1 _ _ H.out.2.1 H.out.1 (T2.out.get 1 rfl) (T2.out.get 2 rfl)).mono ?_
        rintro e w' ⟨rfl, rfl⟩
        go_upto_region 19 with fail
      case' neg =>
        have hnm2 : ((n : Int) == (m : Int)) = false := by rw [beq_eq_false_iff_ne]; omega
        go_wp2_with fail
        refine (HC.out.2.1 _ _ H.out.2.1 H.out.1 (T.out.1.get 1 rfl) (T.out.1.get 2 rfl)).mono ?_
        rintro e w' ⟨rfl, rfl⟩
        have T2 := T.out.1
        obtain ⟨w13, hw13⟩ : ∃ w13, w13 = w12 := ⟨_, rfl⟩
        subst hw13
        have T2 := Lib.hid T2
        go_upto_region 19 with fail
    all_goals
      go_wp2_with fail
      first
        | (go_ret; exact ⟨rfl, T2.out.below⟩)
        | (refine (HC.out.2.2.1 _ _ HX.out.2.2.2.1.symm H.out.2.1 (T2.out.get 0 rfl) (T2.out.get 1 rfl)).mono ?_
           rintro e w' ⟨rfl, rfl⟩
           have hdr : decide (r ≤ 0) = true := by rw [decide_eq_true_iff]; exact HBT.out (by first | rfl | trivial)
           go_wp2_with fail
           go_ret
           exact ⟨rfl, T2.out.below⟩)
/-- WordOrder, whatever came in -/
theorem worder_any (k : Int) (p q : Option Addr) (c d : Nat) (a b : List Int) (w : World) (A : Nat → Addr) (hr : Roots w A) (ha : IntV w.heap.size w p c a) (hb : IntV w.heap.size w q d b) :
    Calls Tryd.prog 5 #[.int .i64 k, .slice p a.length c, .slice q b.length d] w (Tells (.bool true) w) := by
  cases hca : chkW k a with
  | some x =>
    obtain ⟨i, j⟩ := x
    exact worder_bad1 k p q _ _ c d a w A hr rfl ha i j hca
  | none =>
    cases hcb : chkW k b with
    | some x =>
      obtain ⟨i, j⟩ := x
      exact worder_bad2 k p q _ _ c d a b w A hr rfl rfl ha hb hca i j hcb
    | none =>
      by_cases hl : 200 < a.length ∨ 200 < b.length
      · exact worder_long k p q _ _ c d a b w rfl rfl ha hb hca hcb hl
      · obtain ⟨n, rfl, _⟩ := chkW_none hca
        exact worder_ok n p q _ _ c d a b w rfl rfl ha hb hca hcb (by omega) (by omega)
end Go.Proofs.YthhighljfjeooaaDoor
