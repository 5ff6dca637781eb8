/- RingGoesOn: its walk. -/
import Derived.Test.YtgdjnohhofbcnaaDoorB4
import Derived.Test.YtgdjnohhofbcnaaDoorB3
namespace Go.Proofs.YtgdjnohhofbcnaaDoor
open Go.RowKit Go.Extern.Stop Go.Stop Go.Extern WordM RuleM NatM

/-- a number brought into the first N -/
theorem round_mod (x : Int) (N : Nat) (h1 : 1 ≤ N) (h2 : N ≤ 1000) : ∃ D : Nat, D < N ∧ -(N : Int) < x.tmod N ∧ x.tmod N < N ∧ (x.tmod N + N).tmod N = (D : Int) := by
  have hb1 : -(N : Int) < x.tmod N := Int.lt_tmod_of_pos x (by omega)
  have hb2 : x.tmod N < N := Int.tmod_lt_of_pos x (by omega)
  have h3 := Int.emod_nonneg (x.tmod N + N) (show (N : Int) ≠ 0 by omega)
  have h4 := Int.emod_lt_of_pos (x.tmod N + N) (show (0 : Int) < (N : Int) by omega)
  refine ⟨((x.tmod N + N) % N).toNat, by omega, hb1, hb2, ?_⟩
  rw [Int.tmod_eq_emod_of_nonneg (by omega)]; omega

set_option maxRecDepth 100000 in
set_option maxHeartbeats 16000000 in
theorem goes_long (k r x y : Int) (p q : Option Addr) (n c m d : Nat) (w : World) (A : Nat → Addr) (hr : Roots w A) (hm : 200 < m) :
    Calls Tryd.prog 6 #[.agg #[.int .i64 k, .int .i64 r, .slice p n c], .slice q m d, .int .i64 x, .int .i64 y] w (Tells (.bool true) w) := by
  have ST := Lib.hid (box_rule w (.int .i64 k) (.int .i64 r) (.slice p n c))
  obtain ⟨S, hS40, q1, q2, q3⟩ := round_mod x 40 (by omega) (by omega)
  obtain ⟨xs, hxs⟩ : ∃ y, x.tmod ((40 : Nat) : Int) = y := ⟨_, rfl⟩
  rw [hxs] at q1 q2 q3
  obtain ⟨T, hT40, q4, q5, q6⟩ := round_mod y 40 (by omega) (by omega)
  obtain ⟨ys, hys⟩ : ∃ z, y.tmod ((40 : Nat) : Int) = z := ⟨_, rfl⟩
  rw [hys] at q4 q5 q6
  have hxs' : x.tmod 40 = xs := hxs
  have hys' : y.tmod 40 = ys := hys
  have q3' : (xs + 40).tmod 40 = (S : Int) := q3
  have q6' : (ys + 40).tmod 40 = (T : Int) := q6
  have wxs : IntKind.i64.wrap (xs + 40) = xs + 40 := by rw [IntWalk.i64_in _ (by omega)]
  have wys : IntKind.i64.wrap (ys + 40) = ys + 40 := by rw [IntWalk.i64_in _ (by omega)]
  clear hxs hys q1 q2 q3 q4 q5 q6
  have H := Lib.hid (And.intro hr hS40)
  clear hr hS40 hT40
  go_enter Tryd.func6, Tryd.ntmps6
  go_upto_region 1 with fail
  obtain ⟨w0, hw0⟩ : ∃ w0, w0 = w.alloc (.cells #[.int .i64 k, .int .i64 r, .slice p n c] 24) := ⟨_, rfl⟩
  rw [← hw0]
  obtain ⟨hb0, hE0⟩ := ST.out w0 hw0
  have HE := Lib.hid (And.intro hE0 hb0)
  clear hw0 hE0 hb0
  go_wp2_with fail
  refine (awakeG w0 A (H.out.1.below HE.out.2)).mono ?_
  rintro e w1 ⟨rfl, hb1⟩
  have H1 := Lib.hid (And.intro (HE.out.2.trans (hb1.mono HE.out.2.size)) (HE.out.1.next hb1))
  clear hb1
  obtain ⟨_, hc0, hc1, hc2⟩ := H1.out.2.facts
  clear hc0 hc1 hc2
  go_wp2_with fail
  go_ret
  exact ⟨rfl, H1.out.1⟩

set_option maxRecDepth 100000 in
set_option maxHeartbeats 16000000 in
theorem goes_bad (k r x y : Int) (p q : Option Addr) (n c m d : Nat) (t l : List Int) (w : World) (A : Nat → Addr) (hr : Roots w A) (hT : TypeVar w) (hn : n = t.length) (hm : m = l.length) (h : IntV w.heap.size w p c t) (h' : IntV w.heap.size w q d l) (h200 : ¬ 200 < m) (L : List (ByteArray × Int)) (M : Nat) (hc : chkG k r t l = some (L, M)) :
    Calls Tryd.prog 6 #[.agg #[.int .i64 k, .int .i64 r, .slice p n c], .slice q m d, .int .i64 x, .int .i64 y] w (Tells (.bool true) w) := by
  have ST := Lib.hid (box_rule w (.int .i64 k) (.int .i64 r) (.slice p n c))
  obtain ⟨S, hS40, q1, q2, q3⟩ := round_mod x 40 (by omega) (by omega)
  obtain ⟨xs, hxs⟩ : ∃ y, x.tmod ((40 : Nat) : Int) = y := ⟨_, rfl⟩
  rw [hxs] at q1 q2 q3
  obtain ⟨T, hT40, q4, q5, q6⟩ := round_mod y 40 (by omega) (by omega)
  obtain ⟨ys, hys⟩ : ∃ z, y.tmod ((40 : Nat) : Int) = z := ⟨_, rfl⟩
  rw [hys] at q4 q5 q6
  have hxs' : x.tmod 40 = xs := hxs
  have hys' : y.tmod 40 = ys := hys
  have q3' : (xs + 40).tmod 40 = (S : Int) := q3
  have q6' : (ys + 40).tmod 40 = (T : Int) := q6
  have wxs : IntKind.i64.wrap (xs + 40) = xs + 40 := by rw [IntWalk.i64_in _ (by omega)]
  have wys : IntKind.i64.wrap (ys + 40) = ys + 40 := by rw [IntWalk.i64_in _ (by omega)]
  clear hxs hys q1 q2 q3 q4 q5 q6
  have hcA : chkA k r t l (S : Int) = some (L, M) := by unfold chkA; rw [hc]
  have H := Lib.hid (And.intro hr (And.intro hT (And.intro hn (And.intro hm (And.intro h (And.intro h' hcA))))))
  clear hr hT hn hm h h' hc hcA hS40 hT40
  go_enter Tryd.func6, Tryd.ntmps6
  go_upto_region 1 with fail
  obtain ⟨w0, hw0⟩ : ∃ w0, w0 = w.alloc (.cells #[.int .i64 k, .int .i64 r, .slice p n c] 24) := ⟨_, rfl⟩
  rw [← hw0]
  obtain ⟨hb0, hE0⟩ := ST.out w0 hw0
  have HE := Lib.hid (And.intro hE0 hb0)
  clear hw0 hE0 hb0
  go_wp2_with fail
  refine (awakeG w0 A (H.out.1.below HE.out.2)).mono ?_
  rintro e w1 ⟨rfl, hb1⟩
  have H1 := Lib.hid (And.intro (HE.out.2.trans (hb1.mono HE.out.2.size)) (HE.out.1.next hb1))
  clear hb1
  obtain ⟨_, hc0, hc1, hc2⟩ := H1.out.2.facts
  go_wp2_with fail
  refine (gAfter_bad k r (S : Int) p q n c m d t l w1 A (H.out.1.below H1.out.1) (H.out.2.1.below H1.out.1) H.out.2.2.1 H.out.2.2.2.1 (H.out.2.2.2.2.1.next H1.out.1) (H.out.2.2.2.2.2.1.next H1.out.1) L M H.out.2.2.2.2.2.2).mono ?_
  rintro e w2 ⟨b, rfl, _, hb2⟩
  have H2 := Lib.hid (H1.out.1.trans (hb2.mono H1.out.1.size))
  clear hb2 hc0 hc1 hc2
  go_wp2_with fail
  go_ret
  exact ⟨rfl, H2.out⟩

set_option maxRecDepth 100000 in
set_option maxHeartbeats 16000000 in
theorem goes_ok (K R : Nat) (x y : Int) (p q : Option Addr) (n c m d : Nat) (t l : List Int) (w : World) (A : Nat → Addr) (hr : Roots w A) (hn : n = t.length) (hm : m = l.length) (h : IntV w.heap.size w p c t) (h' : IntV w.heap.size w q d l) (h200 : ¬ 200 < m) (ho : OkR K R t) (h0 : 0 < l.length) (hw : okW K l) :
    Calls Tryd.prog 6 #[.agg #[.int .i64 (K : Int), .int .i64 (R : Int), .slice p n c], .slice q m d, .int .i64 x, .int .i64 y] w (Tells (.bool true) w) := by
  have ST := Lib.hid (box_rule w (.int .i64 (K : Int)) (.int .i64 (R : Int)) (.slice p n c))
  obtain ⟨S, hS40, q1, q2, q3⟩ := round_mod x 40 (by omega) (by omega)
  obtain ⟨xs, hxs⟩ : ∃ y, x.tmod ((40 : Nat) : Int) = y := ⟨_, rfl⟩
  rw [hxs] at q1 q2 q3
  obtain ⟨T, hT40, q4, q5, q6⟩ := round_mod y 40 (by omega) (by omega)
  obtain ⟨ys, hys⟩ : ∃ z, y.tmod ((40 : Nat) : Int) = z := ⟨_, rfl⟩
  rw [hys] at q4 q5 q6
  have hxs' : x.tmod 40 = xs := hxs
  have hys' : y.tmod 40 = ys := hys
  have q3' : (xs + 40).tmod 40 = (S : Int) := q3
  have q6' : (ys + 40).tmod 40 = (T : Int) := q6
  have wxs : IntKind.i64.wrap (xs + 40) = xs + 40 := by rw [IntWalk.i64_in _ (by omega)]
  have wys : IntKind.i64.wrap (ys + 40) = ys + 40 := by rw [IntWalk.i64_in _ (by omega)]
  clear hxs hys q1 q2 q3 q4 q5 q6
  obtain ⟨Z, hZ⟩ : ∃ z, S + T = z := ⟨_, rfl⟩
  have wZ : IntKind.i64.wrap ((S : Int) + (T : Int)) = (Z : Int) := by rw [IntWalk.i64_in _ (by omega)]; omega
  have hquo : ∀ N : Nat, N ≤ 80 → N ≤ 262144 / l.length := fun N hN => by
    have h1 : 262144 / 200 ≤ 262144 / l.length := Nat.div_le_div_left (by omega) h0
    omega
  obtain ⟨La, hLa⟩ : ∃ X, stepsW K R t S l = X := ⟨_, rfl⟩
  have hLal : La.length = m := by rw [← hLa, stepsW_length]; exact hm.symm
  have hLao : okW K La := by rw [← hLa]; exact stepsW_ok ho _ _ h0 hw
  obtain ⟨Lb, hLb⟩ : ∃ X, stepsW K R t T La = X := ⟨_, rfl⟩
  have hLbl : Lb.length = m := by rw [← hLb, stepsW_length]; exact hLal
  have hLc : stepsW K R t Z l = Lb := by rw [← hZ, stepsW_add, hLa, hLb]
  obtain ⟨Ly, hLy⟩ : ∃ X, traceW K R t S l = X := ⟨_, rfl⟩
  obtain ⟨Lz, hLz⟩ : ∃ X, traceW K R t T La = X := ⟨_, rfl⟩
  have hLx : traceW K R t Z l = Ly ++ Lz := by rw [← hZ, traceW_add, hLa, hLy, hLz]
  have hLyl : Ly.length = S := by rw [← hLy, traceW_length]
  have hLzl : Lz.length = T := by rw [← hLz, traceW_length]
  have hm0 : 0 < m := by omega
  have hLa0 : La[0]? = some (F La 0) := F_get (by omega)
  have hLz0 : 0 < T → Lz[0]? = some (F La 0) := fun h1 => by rw [← hLz, traceW_get h1]; rfl
  have cA : ∀ W, Below w.heap.size w W → Calls Tryd.prog 14 #[.agg #[.int .i64 (K : Int), .int .i64 (R : Int), .slice p n c], .slice q m d, .int .i64 (S : Int)] W fun e w' => ∃ pa ca, e = .returned (.tuple #[.slice pa m ca, .nilIface]) ∧ IntO W.heap.size w' pa ca La ∧ Below W.heap.size W w' := fun W hW =>
    (gAfter_ok K R S p q n c m d t l W hn hm (h.next hW) (h'.next hW) ho h0 (by omega) hw (hquo S (by omega))).mono fun e w' ⟨pa, ca, he, ho', hb⟩ => ⟨pa, ca, by rw [he, stepsW_length, ← hm], by rw [← hLa]; exact ho', hb⟩
  have cB : ∀ W pa ca, Below w.heap.size w W → IntV W.heap.size W pa ca La → Calls Tryd.prog 14 #[.agg #[.int .i64 (K : Int), .int .i64 (R : Int), .slice p n c], .slice pa m ca, .int .i64 (T : Int)] W fun e w' => ∃ pb cb, e = .returned (.tuple #[.slice pb m cb, .nilIface]) ∧ IntO W.heap.size w' pb cb Lb ∧ Below W.heap.size W w' := fun W pa ca hW hv =>
    (gAfter_ok K R T p pa n c m ca t La W hn hLal.symm (h.next hW) hv ho (by omega) (by omega) hLao (by rw [hLal, hm]; exact hquo T (by omega))).mono fun e w' ⟨pb, cb, he, ho', hb⟩ => ⟨pb, cb, by rw [he, hLb, hLbl], by rw [← hLb]; exact ho', hb⟩
  have cC : ∀ W, Below w.heap.size w W → Calls Tryd.prog 14 #[.agg #[.int .i64 (K : Int), .int .i64 (R : Int), .slice p n c], .slice q m d, .int .i64 (Z : Int)] W fun e w' => ∃ pc cc, e = .returned (.tuple #[.slice pc m cc, .nilIface]) ∧ IntO W.heap.size w' pc cc Lb ∧ Below W.heap.size W w' := fun W hW =>
    (gAfter_ok K R Z p q n c m d t l W hn hm (h.next hW) (h'.next hW) ho h0 (by omega) hw (hquo Z (by omega))).mono fun e w' ⟨pa, ca, he, ho', hb⟩ => ⟨pa, ca, by rw [he, stepsW_length, ← hm], by rw [← hLc]; exact ho', hb⟩
  have cX : ∀ W, Below w.heap.size w W → Calls Tryd.prog 16 #[.agg #[.int .i64 (K : Int), .int .i64 (R : Int), .slice p n c], .slice q m d, .int .i64 (Z : Int)] W fun e w' => ∃ pc cc, e = .returned (.tuple #[.slice pc Z cc, .nilIface]) ∧ IntO W.heap.size w' pc cc (Ly ++ Lz) ∧ Below W.heap.size W w' := fun W hW =>
    (gTrace_ok K R Z p q n c m d t l W hn hm (h.next hW) (h'.next hW) ho h0 (by omega) hw (hquo Z (by omega))).mono fun e w' ⟨pa, ca, he, ho', hb⟩ => ⟨pa, ca, by rw [he, traceW_length], by rw [← hLx]; exact ho', hb⟩
  have cY : ∀ W, Below w.heap.size w W → Calls Tryd.prog 16 #[.agg #[.int .i64 (K : Int), .int .i64 (R : Int), .slice p n c], .slice q m d, .int .i64 (S : Int)] W fun e w' => ∃ pc cc, e = .returned (.tuple #[.slice pc S cc, .nilIface]) ∧ IntO W.heap.size w' pc cc Ly ∧ Below W.heap.size W w' := fun W hW =>
    (gTrace_ok K R S p q n c m d t l W hn hm (h.next hW) (h'.next hW) ho h0 (by omega) hw (hquo S (by omega))).mono fun e w' ⟨pa, ca, he, ho', hb⟩ => ⟨pa, ca, by rw [he, traceW_length], by rw [← hLy]; exact ho', hb⟩
  have cZ : ∀ W pa ca, Below w.heap.size w W → IntV W.heap.size W pa ca La → Calls Tryd.prog 16 #[.agg #[.int .i64 (K : Int), .int .i64 (R : Int), .slice p n c], .slice pa m ca, .int .i64 (T : Int)] W fun e w' => ∃ pb cb, e = .returned (.tuple #[.slice pb T cb, .nilIface]) ∧ IntO W.heap.size w' pb cb Lz ∧ Below W.heap.size W w' := fun W pa ca hW hv =>
    (gTrace_ok K R T p pa n c m ca t La W hn hLal.symm (h.next hW) hv ho (by omega) (by omega) hLao (by rw [hLal, hm]; exact hquo T (by omega))).mono fun e w' ⟨pb, cb, he, ho', hb⟩ => ⟨pb, cb, by rw [he, traceW_length], by rw [← hLz]; exact ho', hb⟩
  have C := Lib.hid (And.intro cA (And.intro cB (And.intro cC (And.intro cX (And.intro cY cZ)))))
  have H := Lib.hid (And.intro hr (And.intro hLal (And.intro hLbl (And.intro hLyl (And.intro hLzl (And.intro hLa0 hLz0))))))
  have TL := Lib.hid (show Z = (Ly ++ Lz).length by rw [List.length_append, hLyl, hLzl]; exact hZ.symm)
  have hZZ := Lib.hid hZ
  clear hZ
  clear hr hn hm h h' ho h0 hw hquo hLa hLal hLao hLb hLbl hLc hLy hLz hLx hLyl hLzl hLa0 hLz0 cA cB cC cX cY cZ
  go_enter Tryd.func6, Tryd.ntmps6
  go_upto_region 1 with fail
  obtain ⟨w0, hw0⟩ : ∃ w0, w0 = w.alloc (.cells #[.int .i64 (K : Int), .int .i64 (R : Int), .slice p n c] 24) := ⟨_, rfl⟩
  rw [← hw0]
  obtain ⟨hb0, hE0⟩ := ST.out w0 hw0
  have HE := Lib.hid (And.intro hE0 hb0)
  clear hw0 hE0 hb0
  go_wp2_with fail
  refine (awakeG w0 A (H.out.1.below HE.out.2)).mono ?_
  rintro e w1 ⟨rfl, hb1⟩
  have H1 := Lib.hid (And.intro (HE.out.2.trans (hb1.mono HE.out.2.size)) (HE.out.1.next hb1))
  clear hb1
  obtain ⟨_, hc0, hc1, hc2⟩ := H1.out.2.facts
  have K1 := Lib.hid (Si.start w1)
  have B1 := Lib.hid H1.out.1
  go_wp2_with fail
  refine (C.out.1 w1 H1.out.1).mono ?_
  rintro e w2 ⟨pa, ca, rfl, hoo, hbb⟩
  have K2 := Lib.hid ((K1.out.next hbb).push hoo.toV)
  have B2 := Lib.hid (B1.out.trans (hbb.mono B1.out.size))
  clear hoo hbb hc0 hc1 hc2
  obtain ⟨_, hc0, hc1, hc2⟩ := (H1.out.2.next K2.out.below).facts
  go_wp2_with fail
  refine (C.out.2.1 w2 pa ca B2.out (K2.out.get 0 rfl)).mono ?_
  rintro e w3 ⟨pb, cb, rfl, hoo, hbb⟩
  have K3 := Lib.hid ((K2.out.next hbb).push hoo.toV)
  have B3 := Lib.hid (B2.out.trans (hbb.mono B2.out.size))
  clear hoo hbb hc0 hc1 hc2
  obtain ⟨_, hc0, hc1, hc2⟩ := (H1.out.2.next K3.out.below).facts
  go_wp2_with fail
  refine (C.out.2.2.1 w3 B3.out).mono ?_
  rintro e w4 ⟨pc, cc, rfl, hoo, hbb⟩
  have K4 := Lib.hid ((K3.out.next hbb).push hoo.toV)
  have B4 := Lib.hid (B3.out.trans (hbb.mono B3.out.size))
  clear hoo hbb hc0 hc1 hc2
  obtain ⟨_, hc0, hc1, hc2⟩ := (H1.out.2.next K4.out.below).facts
  go_wp2_with fail
  refine (C.out.2.2.2.1 w4 B4.out).mono ?_
  rintro e w5 ⟨px, cx, rfl, hoo, hbb⟩
  have K5 := Lib.hid ((K4.out.next hbb).push hoo.toV)
  have B5 := Lib.hid (B4.out.trans (hbb.mono B4.out.size))
  clear hoo hbb hc0 hc1 hc2
  obtain ⟨_, hc0, hc1, hc2⟩ := (H1.out.2.next K5.out.below).facts
  go_wp2_with fail
  refine (C.out.2.2.2.2.1 w5 B5.out).mono ?_
  rintro e w6 ⟨py, cy, rfl, hoo, hbb⟩
  have K6 := Lib.hid ((K5.out.next hbb).push hoo.toV)
  have B6 := Lib.hid (B5.out.trans (hbb.mono B5.out.size))
  clear hoo hbb hc0 hc1 hc2
  obtain ⟨_, hc0, hc1, hc2⟩ := (H1.out.2.next K6.out.below).facts
  go_wp2_with fail
  refine (C.out.2.2.2.2.2 w6 pa ca B6.out (K6.out.get 4 rfl)).mono ?_
  rintro e w7 ⟨pz, cz, rfl, hoo, hbb⟩
  have K7 := Lib.hid ((K6.out.next hbb).push hoo.toV)
  have B7 := Lib.hid (B6.out.trans (hbb.mono B6.out.size))
  clear hoo hbb hc0 hc1 hc2
  obtain ⟨_, hc0, hc1, hc2⟩ := (H1.out.2.next K7.out.below).facts
  clear hc0 hc1 hc2
  go_wp2_with fail
  refine (ints_any pb pc m m cb cc _ _ w7 H.out.2.2.1.symm H.out.2.2.1.symm (K7.out.get 4 rfl) (K7.out.get 3 rfl)).mono ?_
  rintro e w8 ⟨rfl, hbb⟩
  rw [sameI_self]
  have K8 := Lib.hid (K7.out.next hbb)
  clear hbb
  go_wp2_with fail
  refine (copyI_any py S cy _ w8 H.out.2.2.2.1.symm (K8.out.get 1 rfl) (by have := H.out.2.2.2.1; omega)).mono ?_
  rintro e w9 ⟨p9, c9, rfl, ho9, hb9⟩
  rw [H.out.2.2.2.1]
  have K9 := Lib.hid (And.intro (K8.out.next hb9) (And.intro ho9 hb9))
  clear ho9 hb9
  go_wp2_with (at_builtin; refine wpList_appI (by rfl) _ _ (by rfl) w8.heap.size p9 S c9 Ly (by rfl) H.out.2.2.2.1.symm K9.out.2.1 K9.out.2.2.size pz T cz Lz (by rfl) H.out.2.2.2.2.1.symm (K9.out.1.get 0 rfl) (by have := H.out.2.2.2.1; omega) (by have := H.out.2.2.2.2.1; omega) ?_; intro pA cA wA hoA hbA)
  have KA := Lib.hid (And.intro ((K8.out.next (K9.out.2.2.trans hbA))) hoA.toV)
  clear hoA hbA
  have hTL := TL.out
  rw [hZZ.out]
  go_wp2_with fail
  refine (ints_any px pA Z Z cx cA _ _ wA hTL hTL (KA.out.1.get 2 rfl) KA.out.2).mono ?_
  rintro e wB ⟨rfl, hbb⟩
  rw [sameI_self]
  have KB := Lib.hid (KA.out.1.next hbb)
  clear hbb hTL
  have HF := Lib.hid (H1.out.1.trans (KB.out.below.mono H1.out.1.size))
  rcases Nat.eq_zero_or_pos T with hT0 | hT0
  · subst hT0
    go_wp2_with fail
    go_region
    go_wp2_with fail
    go_ret
    exact ⟨rfl, HF.out.drew⟩
  · obtain ⟨ba, oa, rfl, _, hca⟩ := (KB.out.get 5 rfl : IntV wB.heap.size wB pa ca La).cell (by have := H.out.2.1; rintro rfl; simp at this; omega)
    obtain ⟨bz, oz, rfl, _, hcz⟩ := (KB.out.get 0 rfl : IntV wB.heap.size wB pz cz Lz).cell (by have := H.out.2.2.2.2.1; rintro rfl; simp at this; omega)
    have ha : wB.cell? ⟨ba, oa, none⟩ = some (.int .i64 (F La 0)) := hca 0 _ H.out.2.2.2.2.2.1
    have hz : wB.cell? ⟨bz, oz, none⟩ = some (.int .i64 (F La 0)) := hcz 0 _ (H.out.2.2.2.2.2.2 hT0)
    obtain ⟨f, hf⟩ : ∃ f, F La 0 = f := ⟨_, rfl⟩
    rw [hf] at ha hz
    have hmca : m ≤ ca := by have := (KB.out.get 5 rfl : IntV wB.heap.size wB (some ⟨ba, oa, none⟩) ca La).le; have := H.out.2.1; omega
    have hTcz : T ≤ cz := by have := (KB.out.get 0 rfl : IntV wB.heap.size wB (some ⟨bz, oz, none⟩) cz Lz).le; have := H.out.2.2.2.2.1; omega
    clear hca hcz hf
    have hTb : ((T : Int) == 0) = false := by rw [beq_eq_false_iff_ne]; omega
    go_wp2_with fail
    go_region
    go_wp2_with fail
    go_ret
    exact ⟨rfl, HF.out.drew⟩
end Go.Proofs.YtgdjnohhofbcnaaDoor
