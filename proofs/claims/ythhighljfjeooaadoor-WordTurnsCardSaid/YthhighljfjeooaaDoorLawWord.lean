/- What the statements of layer 3 share: lists that are known, awake. -/
import Derived.Test.YthhighljfjeooaaDoorWordC
import Derived.Test.YthhighljfjeooaaDoorWordF
import Derived.Test.YthhighljfjeooaaDoorLawPost
import Derived.ChangeSlices
namespace Go.Proofs.YthhighljfjeooaaDoor
open Go.ChangeShapes Go.WideShapes Go.ChangeAt Go.RowKit Go.Extern.Stop Go.Stop Go.Extern WordM NatM

/-- Lists that are known in the world wx; below w nothing has changed. -/
structure Si (w wx : World) (L : List Sl) : Prop where
  each : ∀ x : Sl, x ∈ L → IntV wx.heap.size wx x.1 x.2.1 x.2.2
  below : Below w.heap.size w wx
theorem Si.start (w : World) : Si w w [] := ⟨(fun x h => by cases h), Below.refl _ _⟩
theorem Si.get {w wx : World} {L : List Sl} (S : Si w wx L) (i : Nat) {p : Option Addr} {c : Nat} {l : List Int} (h : L[i]? = some (p, c, l)) : IntV wx.heap.size wx p c l := S.each _ (List.mem_of_getElem? h)
theorem Si.next {w wx w' : World} {L : List Sl} (S : Si w wx L) (hb : Below wx.heap.size wx w') : Si w w' L :=
  ⟨fun x hx => (S.each x hx).next hb, S.below.trans (hb.mono S.below.size)⟩
theorem Si.push {w wx : World} {L : List Sl} (S : Si w wx L) {p : Option Addr} {c : Nat} {l : List Int} (h : IntV wx.heap.size wx p c l) : Si w wx ((p, c, l) :: L) :=
  ⟨fun x hx => by
    rcases List.mem_cons.1 hx with rfl | hx
    · exact h
    · exact S.each x hx, S.below⟩
theorem Si.alloc {w wx : World} {L : List Sl} (S : Si w wx L) (o : Obj) : Si w (wx.alloc o) L := S.next ((Below.refl _ _).alloc (Nat.le_refl _) _)
/-- a literal of ints, just laid -/
theorem Si.lit {w wx : World} {L : List Sl} (S : Si w wx L) (l : List Int) (cs : Array Value) (t : TypeId) (hc : cs.toList = cI l) (hl : l.length ≤ 1000) :
    Si w (wx.alloc (.cells cs t)) ((some ⟨wx.heap.size, 0, none⟩, l.length, l) :: L) := (S.alloc _).push (IntV.laid l cs t hc hl)
theorem Si.drew {w wx : World} {L : List Sl} (S : Si w wx L) : Si w wx.drew L := S.next (Below.refl _ _).drew

theorem next_011 : IsNext 2 [0, 1, 1] [1, 0, 0] := Or.inl ⟨0, 0, rfl, by decide, by decide, by decide⟩
theorem ok_011 : okW 2 [0, 1, 1] := fun x hx => by simp at hx; omega
theorem chk_011 : chkW 2 [0, 1, 1] = none := by decide
def txt031 : ByteArray := { data := #[48, 51, 49] }
theorem chk_031 : chkW 4 (sW txt031) = none := by decide +kernel
theorem sW_031 : sW txt031 = [0, 3, 1] := by decide +kernel
theorem cmp_0100 : cmpW [0, 1] [0, 0] = 1 := by decide
theorem per_0101 : perW [0, 1, 0, 1] = 2 := by
  refine perW_eq (by decide) ⟨by decide, ⟨2, rfl⟩, fun i => ?_, fun q h1 h2 => ?_⟩
  · have h : i % 4 = 0 ∨ i % 4 = 1 ∨ i % 4 = 2 ∨ i % 4 = 3 := by omega
    unfold F
    show ([0, 1, 0, 1] : List Int).getD ((i + 2) % 4) 0 = ([0, 1, 0, 1] : List Int).getD (i % 4) 0
    rcases h with h | h | h | h
    · rw [h, show (i + 2) % 4 = 2 by omega]; rfl
    · rw [h, show (i + 2) % 4 = 3 by omega]; rfl
    · rw [h, show (i + 2) % 4 = 0 by omega]; rfl
    · rw [h, show (i + 2) % 4 = 1 by omega]; rfl
  · obtain rfl : q = 1 := by omega
    rintro ⟨_, h⟩
    have := h 0
    revert this
    decide
set_option maxRecDepth 100000 in
set_option maxHeartbeats 4000000 in
theorem awakeW (w : World) : Calls Tryd.prog 23 #[] w (Tells (.bool true) w) := by
  go_enter Tryd.func23, Tryd.ntmps23
  go_wp2_with fail
  have S1 := Lib.hid ((Si.start w).lit [0, 1, 1] #[.int .i64 0, .int .i64 1, .int .i64 1] 3 rfl (by decide))
  refine (next_any 2 _ 3 3 [0, 1, 1] _ rfl (S1.out.get 0 rfl) chk_011 (Or.inl (by decide))).mono ?_
  rintro e w1 ⟨x, hx, p1, c1, rfl, ho1, hb1⟩
  obtain rfl := isNext_unique (k := 2) (by decide) ok_011 hx next_011
  have S2 := Lib.hid ((S1.out.next hb1).push ho1.toV)
  clear ho1 hb1 hx S1
  go_wp2_with fail
  refine (parseW_ok 4 txt031 _ chk_031).mono ?_
  rintro e w2 ⟨p2, c2, rfl, ho2, hb2⟩
  rw [sW_031] at ho2 ⊢
  have S3 := Lib.hid ((S2.out.next hb2).push ho2.toV)
  clear ho2 hb2 S2
  go_wp2_with fail
  have S4 := Lib.hid (S3.out.lit [1, 0, 0] #[.int .i64 1, .int .i64 0, .int .i64 0] 3 rfl (by decide))
  refine (ints_any _ _ _ _ _ _ [1, 0, 0] [1, 0, 0] _ rfl rfl (S4.out.get 2 rfl) (S4.out.get 0 rfl)).mono ?_
  rintro e w3 ⟨rfl, hb3⟩
  rw [sameI_self]
  have S5 := Lib.hid (S4.out.next hb3)
  clear hb3 S3 S4
  go_wp2_with fail
  have S6 := Lib.hid (S5.out.lit [0, 3, 1] #[.int .i64 0, .int .i64 3, .int .i64 1] 3 rfl (by decide))
  refine (ints_any _ _ _ _ _ _ [0, 3, 1] [0, 3, 1] _ rfl rfl (S6.out.get 2 rfl) (S6.out.get 0 rfl)).mono ?_
  rintro e w4 ⟨rfl, hb4⟩
  rw [sameI_self]
  have S7 := Lib.hid (S6.out.next hb4)
  clear hb4 S5 S6
  go_wp2_with fail
  have S8 := Lib.hid ((S7.out.lit [0, 1] #[.int .i64 0, .int .i64 1] 3 rfl (by decide)).lit [0, 0] #[.int .i64 0, .int .i64 0] 3 rfl (by decide))
  refine (cmp_w _ _ _ _ _ _ [0, 1] [0, 0] _ rfl rfl (S8.out.get 1 rfl) (by first | exact S8.out.get 0 rfl | (have h := S8.out.get 0 rfl; simpa using h))).mono ?_
  rintro e w5 ⟨rfl, rfl⟩
  rw [cmp_0100]
  go_wp2_with fail
  have S9 := Lib.hid (S8.out.lit [0, 1, 0, 1] #[.int .i64 0, .int .i64 1, .int .i64 0, .int .i64 1] 3 rfl (by decide))
  refine (Quiet.tells (period_any _ _ _ [0, 1, 0, 1] _ rfl (by first | exact S9.out.get 0 rfl | (have h := S9.out.get 0 rfl; simpa using h)) (by decide))).mono ?_
  rintro e w6 ⟨rfl, hb6⟩
  rw [per_0101]
  have S10 := Lib.hid (S9.out.next hb6).below
  clear hb6 S7 S8 S9
  go_wp2_with fail
  go_ret
  exact ⟨rfl, S10.out⟩

/-- every one is an int's value -/
def okI (l : List Int) : Prop := ∀ x ∈ l, -9223372036854775808 ≤ x ∧ x ≤ 9223372036854775807
theorem cellsInt_1 : Tryd.prog.cellsOf 3 = 1 := by kernel_rfl
theorem wf_i64 {n : Int} (h : (Lit.int .i64 n).wf = true) : -9223372036854775808 ≤ n ∧ n ≤ 9223372036854775807 := by
  have := bounds_i64 h
  omega
/-- an argument that is a list of ints, opened -/
theorem open_intl {H : Type} {enc : TypeId × Value → H} {W : World} {v : Value} {d : DataW H} {p : List MemPlace} (hok : ∃ a len cap, v = .slice a len cap)
    (h : DataW.Trod enc Tryd.prog W 0 (fun _ => true) true 40 v d p) (hlt : ∀ x ∈ p, x.block < W.heap.size) :
    ∃ (a : Option Addr) (cap : Nat) (l : List Int), v = .slice a l.length cap ∧ IntV W.heap.size W a cap l ∧ okI l := by
  obtain ⟨a0, len, cap, rfl⟩ := hok
  obtain ⟨fuel, hf⟩ := h
  rcases open_ints Tryd.underlying40 Tryd.underlying3 cellsInt_1 hf with ⟨hcs, _⟩ | ⟨a, len', cap', zs, hcs, _, hl, hm, hz, hx, hcell, hwf⟩
  · simp [Value.cells] at hcs
    obtain ⟨rfl, rfl, rfl⟩ := hcs
    exact ⟨none, 0, [], rfl, ⟨Nat.le_refl _, Nat.zero_le _, fun _ => rfl, fun h => absurd rfl h⟩, fun x h => by cases h⟩
  · simp [Value.cells] at hcs
    obtain ⟨rfl, rfl, rfl⟩ := hcs
    simp only [if_true] at hz
    obtain ⟨rfl, rfl⟩ := Prod.mk.inj hx
    have hlen : (zs.take len).length = len := by rw [List.length_take]; omega
    refine ⟨some a, cap, zs.take len, by rw [hlen], ⟨by rw [hlen]; exact hl, hm, (fun h => by cases h), fun hn => ?_⟩, fun x hx => wf_i64 (hwf x (List.mem_of_mem_take hx))⟩
    obtain ⟨b, off, spot⟩ := a
    have h0 : 0 < zs.length := by
      have := List.length_pos_iff.2 hn
      rw [hlen] at this
      omega
    have hspot : spot = none := by simpa [Addr.add] using World.cell?_spot (hcell 0 h0)
    subst hspot
    refine ⟨b, off, rfl, hlt (.cell b off) (MemPlace.mem_row.2 ⟨0, h0, by simp⟩), fun j x hx => ?_⟩
    have hj := ltI hx
    rw [hlen] at hj
    have hjz : j < zs.length := by omega
    have hc := hcell j hjz
    have e : zs.getD j 0 = x := by
      rw [List.getElem?_take, if_pos hj] at hx
      rw [List.getD_eq_getElem?_getD, hx]; rfl
    rw [e, add_plain] at hc
    exact hc

theorem weights_get {H : Type} {P : Program} : ∀ (ts : List TypeId) (ds : List (DataW H)) (i : Nat) (t : TypeId) (d : DataW H), ts[i]? = some t → ds[i]? = some d → ∀ x ∈ d.weights P t, x ∈ DataW.weightsEach P ts ds
  | [], _, _, _, _, h, _, _, _ => by simp at h
  | _ :: _, [], _, _, _, _, h, _, _ => by simp at h
  | t0 :: ts, d0 :: ds, 0, t, d, ht, hd, x, hx => by
    simp at ht hd; subst ht hd
    unfold DataW.weightsEach
    exact List.mem_append_left _ hx
  | t0 :: ts, d0 :: ds, i + 1, t, d, ht, hd, x, hx => by
    unfold DataW.weightsEach
    exact List.mem_append_right _ (weights_get ts ds i t d (by simpa using ht) (by simpa using hd) x hx)
theorem bytesInt : Tryd.prog.bytesOf 3 = 8 := by kernel_rfl
/-- a list of ints that came in is shorter than 2^44 -/
theorem open_reach {H : Type} {enc : TypeId × Value → H} {W : World} {a : Option Addr} {len cap : Nat} {d : DataW H} {p : List MemPlace}
    (h : DataW.Trod enc Tryd.prog W 0 (fun _ => true) true 40 (.slice a len cap) d p) (hw : ∀ x ∈ d.weights Tryd.prog 40, x ≤ reachBytes) : len ≤ 17592186043904 := by
  obtain ⟨fuel, hf⟩ := h
  rcases open_ints Tryd.underlying40 Tryd.underlying3 cellsInt_1 hf with ⟨hcs, _⟩ | ⟨a, len', cap', zs, hcs, _, hl, hm, hz, hx, hcell, hwf⟩
  · simp [Value.cells] at hcs
    omega
  · simp [Value.cells] at hcs
    obtain ⟨rfl, rfl, rfl⟩ := hcs
    simp only [if_true] at hz
    obtain ⟨rfl, rfl⟩ := Prod.mk.inj hx
    have h1 := hw ((zs.take len).length * 8 + (zs.drop len).length * 8) (by
      unfold DataW.weights
      rw [Tryd.underlying40]
      simp only [lits, List.length_map, bytesInt]
      rw [← Nat.add_mul]
      exact List.mem_cons_self ..)
    unfold reachBytes at h1
    rw [List.length_take] at h1
    omega
end Go.Proofs.YthhighljfjeooaaDoor
