/- Package word by its contracts, ninth part: At. -/
import Derived.Test.YthhighljfjeooaaDoorWordH
namespace Go.Proofs.YthhighljfjeooaaDoor
open Go.RowKit Go.Extern.Stop Go.Stop Go.Extern WordM NatM

/-- the word of n symbols with this number, and no error -/
def AtOk (w : World) (k n i : Nat) (e : Ending) (w' : World) : Prop := ∃ x : List Int, x.length = n ∧ okW k x ∧ valW k x = i ∧ IntOk w x e w'
def AtRel (w : World) (k n i : Nat) (g : Nat) (v2 v11 : Value) (wr : World) : Prop :=
  ∃ (j R : Nat) (x : List Int) (q : Option Addr) (cq : Nat) (b : List Nat), j ≤ n ∧ v11 = .int .i64 ((j : Int) - 1) ∧ v2 = .slice q b.length cq ∧ V32 b = R ∧ NatV wr.heap.size wr q cq b ∧ b.length ≤ 100000 ∧
    x.length = n - j ∧ okW k x ∧ valW k x + k ^ (n - j) * R = i ∧ IntO w.heap.size wr (some ⟨g, 0, none⟩) n (List.replicate j 0 ++ x) ∧ w.heap.size ≤ g ∧ Below w.heap.size w wr
def OverIs (w : World) (q d : Nat) (e : Ending) (w' : World) : Prop :=
  ∃ p c, e = .returned (.tuple #[.slice p (D32 q).length c, .int .u32 (d : Int), .nilIface]) ∧ NatO w.heap.size w' p c (D32 q) ∧ Below w.heap.size w w'
theorem over_is {w : World} {n d q r : Nat} {e : Ending} {w' : World} (hq : n / d = q) (hr : n % d = r) (h : OverPost w n d e w') : OverIs w q r e w' := by
  subst hq hr
  exact h
theorem set_front {x : List Int} {j : Nat} {v : Int} : (List.replicate (j + 1) (0 : Int) ++ x).set j v = List.replicate j 0 ++ v :: x := by
  rw [List.replicate_succ', List.append_assoc, List.set_append_right _ _ (by simp), List.length_replicate, Nat.sub_self]
  rfl
set_option maxRecDepth 100000 in
set_option maxHeartbeats 4000000 in
theorem at_ok (k n : Nat) (p : Option Addr) (m c : Nat) (a : List Nat) (w : World) (hm : m = a.length) (h : NatV w.heap.size w p c a) (hl : a.length ≤ 100000) (h1 : 1 ≤ k) (h4 : k ≤ 4) (h256 : n ≤ 256) (hlt : V32 a < k ^ n) :
    Calls Tryd.prog 38 #[.int .i64 (k : Int), .int .i64 (n : Int), .slice p m c] w (AtOk w k n (V32 a)) := by
  subst hm
  have hpow := pow_any k n (by omega) (by omega) w
  have hpl : (D32 (k ^ n)).length ≤ 100000 := by
    have h2 : k ^ n ≤ 4294967296 ^ n := Nat.pow_le_pow_left (by omega) n
    have h3 : 4294967296 ^ n < 4294967296 ^ (n + 1) := Nat.pow_lt_pow_right (by omega) (by omega)
    have := D32_len (n := k ^ n) (k := n + 1) (by omega)
    omega
  have hck := cmp_lt hlt
  have H := Lib.hid (And.intro h (And.intro hl (And.intro hlt (And.intro hpl (And.intro hck hpow)))))
  clear h hl hlt hpow hpl hck
  have hdn : decide ((n : Int) < 0) = false := by rw [decide_eq_false_iff_not]; omega
  go_enter Tryd.func38, Tryd.ntmps38
  go_wp2_with fail
  refine (alpha_yes _ _ (by omega) (by omega)).mono ?_
  rintro e w' ⟨rfl, rfl⟩
  go_wp2_with fail
  refine H.out.2.2.2.2.2.mono ?_
  rintro e w1 ⟨p1, c1, rfl, ho1, hb1⟩
  have hcmp := cmp_any p p1 c c1 a (D32 (k ^ n)) w1 (H.out.1.next hb1) ho1.toV
  have hcv : cmpV a (D32 (k ^ n)) = .int .i64 (-1) := by unfold cmpV; rw [V32_D32, H.out.2.2.2.2.1]
  rw [hcv] at hcmp
  have HB1 := Lib.hid (And.intro hb1 hcmp)
  clear ho1 hb1 hcmp hcv
  go_wp2_with fail
  refine HB1.out.2.mono ?_
  rintro e w2 ⟨rfl, hb2⟩
  have hmk := makeI n (by omega) w2
  have hb02 : Below w.heap.size w w2 := HB1.out.1.trans (hb2.mono HB1.out.1.size)
  have HB2 := Lib.hid hb02
  clear hb2 hb02
  go_wp2_with fail
  clear hmk
  have ho0 := IntO.made w2 n (by omega)
  have hbm : Below w.heap.size w (w2.alloc (.cells (madeCells #[.int .i64 0] n) 3)) := HB2.out.alloc HB2.out.size _
  obtain ⟨g, hg⟩ : ∃ g, g = w2.heap.size := ⟨_, rfl⟩
  rw [← hg] at ho0 ⊢
  have HM := Lib.hid (And.intro (ho0.base (by rw [hg]; exact HB2.out.size : w.heap.size ≤ g)) (And.intro hbm (by rw [hg]; exact HB2.out.size : w.heap.size ≤ g)))
  clear ho0 hbm hg
  go_loopw [2, 11] (fun v2 v11 wr => AtRel w k n (V32 a) g v2 v11 wr) (fun _ v _ => (intOf v + 1).toNat)
  case atStart => exact ⟨n, V32 a, [], p, c, a, Nat.le_refl _, rfl, rfl, rfl, H.out.1.next HM.out.2.1, H.out.2.1, by simp, okW_nil k, by rw [Nat.sub_self, Nat.pow_zero, Nat.one_mul]; exact Nat.zero_add _, by rw [List.append_nil]; exact HM.out.1, HM.out.2.2, HM.out.2.1⟩
  case round =>
    obtain ⟨j, R, x, q, cq, b, hj, rfl, rfl, hR, hbv, hbl, hxl, hxo, hxv, ho, hgB, hb⟩ := hrel
    rcases Nat.eq_zero_or_pos j with rfl | hj0
    · have hxa : valW k x = V32 a := at_done hxv (by rw [Nat.sub_zero]; exact H.out.2.2.1)
      rw [Nat.sub_zero] at hxl
      have ho' : IntO w.heap.size wr (some ⟨g, 0, none⟩) n x := ho
      have HF := Lib.hid (And.intro hxl (And.intro hxo (And.intro hxa (And.intro ho' hb))))
      clear hR hbv hbl hxl hxo hxv ho ho' hb hxa
      go_wp2_with fail
      go_ret2
      exact ⟨x, HF.out.1, HF.out.2.1, HF.out.2.2.1, _, _, by rw [HF.out.1]; rfl, HF.out.2.2.2.1, HF.out.2.2.2.2⟩
    · obtain ⟨i, rfl⟩ : ∃ i, j = i + 1 := ⟨j - 1, by omega⟩
      have e1 : (((i + 1 : Nat) : Int) - 1) = (i : Int) := by omega
      rw [e1]
      have hov := over_any q cq b k wr hbv hbl h1 (by omega)
      rw [hR] at hov
      have hq : (D32 (R / k)).length ≤ 100000 := by
        have h2 : R / k ≤ R := Nat.div_le_self _ _
        rcases Nat.lt_or_ge 100000 (D32 (R / k)).length with h3 | h3
        · have h5 : (D32 R).length ≤ b.length := by rw [← hR]; exact D32_le hbv.ok
          have := cmp_len (m := R) (n := R / k) (by omega)
          omega
        · exact h3
      have hst := at_step (k := k) (p := n - (i + 1)) (i := R) (i0 := V32 a) hxl hxv
      obtain ⟨d, hd⟩ : ∃ d, R % k = d := ⟨_, rfl⟩
      obtain ⟨Q, hQ⟩ : ∃ Q, R / k = Q := ⟨_, rfl⟩
      have hdk : d < k := by rw [← hd]; exact Nat.mod_lt _ h1
      have hov := hov.mono fun e w' h => over_is hQ hd h
      rw [hd, hQ] at hst
      rw [hQ] at hq
      have hlen : (List.replicate (i + 1) (0 : Int) ++ x).length = n := by simp; omega
      have hown : wr.ownsRow w.heap.size 3 1 (.slice (some ⟨g, 0, none⟩) n n) n (cI (List.replicate (i + 1) 0 ++ x)) := by
        unfold IntO at ho
        rwa [hlen] at ho
      have hin : i < n := by omega
      have HS := Lib.hid (And.intro hov (And.intro hq (And.intro hst (And.intro hown (And.intro hb (And.intro hxo hxl))))))
      clear hov hq hst hown hb hxo hxl hxv ho hlen hR hbv hbl hd hQ e1
      go_wp2_with fail
      refine HS.out.1.mono ?_
      rintro e w3 ⟨p3, c3, rfl, ho3, hb3⟩
      have hown3 := ownsRow_below hb3 HS.out.2.2.2.1
      obtain ⟨y, hy⟩ := getI (l := List.replicate (i + 1) (0 : Int) ++ x) (k := i) (by simp; omega)
      have hcy : w3.cell? ⟨g, i, none⟩ = some (.int .i64 y) := (hown3.cellAt i (by omega)).trans (cI_get hy)
      have hfy : w3.frozen? ⟨g, i, none⟩ = false := hown3.frozenAt i
      obtain ⟨s1, t1⟩ := hown3.stored i (.int .i64 (d : Int))
      rw [← cI_set, set_front] at s1
      have hb03 : Below w.heap.size w w3 := HS.out.2.2.2.2.1.trans (hb3.mono HS.out.2.2.2.2.1.size)
      have hb4 : Below w.heap.size w (w3.setCell ⟨g, i, none⟩ (.int .i64 (d : Int))) := hb03.setCell (p := ⟨g, i, none⟩) hgB _
      have hv3 : NatV (w3.setCell ⟨g, i, none⟩ (.int .i64 (d : Int))).heap.size (w3.setCell ⟨g, i, none⟩ (.int .i64 (d : Int))) p3 c3 (D32 Q) := by
        have hgl : g < wr.heap.size := by
          rcases own_shape HS.out.2.2.2.1 with ⟨hv, h0, _⟩ | ⟨g', cap, hv, _, hlt', _⟩
          · simp at hv
          · have e : g = g' := by simpa using (Value.slice.inj hv).1
            omega
        have ho4 : NatO wr.heap.size (w3.setCell ⟨g, i, none⟩ (.int .i64 (d : Int))) p3 c3 (D32 Q) := ⟨ownsRow_setCell_below ho3.own (a := ⟨g, i, none⟩) hgl _, ho3.ok⟩
        exact ho4.toV
      have HF := Lib.hid (And.intro s1 (And.intro hb4 hv3))
      clear hown3 hy s1 t1 hb03 hb4 hv3 ho3 hb3
      go_wp2_with fail
      go_roundw
      case rel =>
        refine ⟨i, Q, (d : Int) :: x, p3, c3, D32 Q, by omega, rfl, rfl, V32_D32 Q, HF.out.2.2, HS.out.2.1, ?_, ?_, ?_, ?_, hgB, HF.out.2.1⟩
        · rw [List.length_cons, HS.out.2.2.2.2.2.2]; omega
        · intro z hz
          rcases List.mem_cons.1 hz with rfl | hz
          · omega
          · exact HS.out.2.2.2.2.2.1 z hz
        · have := HS.out.2.2.1
          rw [show n - (i + 1) + 1 = n - i by omega] at this
          exact this
        · unfold IntO
          have hlen : (List.replicate i (0 : Int) ++ (d : Int) :: x).length = n := by simp; have := HS.out.2.2.2.2.2.2; omega
          rw [hlen]; exact HF.out.1
      case measure => simp [intOf]
end Go.Proofs.YthhighljfjeooaaDoor
