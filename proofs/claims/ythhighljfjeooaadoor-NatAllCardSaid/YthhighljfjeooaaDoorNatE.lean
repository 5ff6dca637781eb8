/- Package nat by its contracts, fifth part: Div32, divide, extend, slices.Clone. -/
import Derived.Test.YthhighljfjeooaaDoorNatD
import Derived.Laws.BitsAllLaws
import Derived.WalkSpells
import Derived.Maps.AppendAt
import Derived.OwnWalk
namespace Go.Proofs.YthhighljfjeooaaDoor
open Go.RowKit NatM

theorem or_split (r x : Nat) (hr : r < 4294967296) (hx : x < 4294967296) : bits .or .u64 ((r : Int) * 4294967296) (x : Int) = ((r * 4294967296 + x : Nat) : Int) := by
  have h := u64_or_nat (r * 4294967296) x (by omega) (by omega)
  rw [Int.natCast_mul] at h
  have e : r * 4294967296 ||| x = r * 4294967296 + x := by
    have := Nat.two_pow_add_eq_or_of_lt (i := 32) (b := x) hx r
    rw [Nat.mul_comm r]
    exact this.symm
  rw [e] at h
  exact h
set_option maxRecDepth 100000 in
theorem div32_any (r x d : Nat) (w : World) (hr : r < d) (hx : x < 4294967296) (hd : d < 4294967296) :
    Calls Tryd.prog 96 #[.int .u32 (r : Int), .int .u32 (x : Int), .int .u32 (d : Int)] w fun e w' => e = .returned (.tuple #[.int .u32 (((r * 4294967296 + x) / d : Nat) : Int), .int .u32 (((r * 4294967296 + x) % d : Nat) : Int)]) ∧ ∃ n, w' = w.drewN n := by
  have hd0 : ((d : Int) != 0) = true := by simp; omega
  have hle : decide (d ≤ r) = false := by simp; omega
  have hor := or_split r x (by omega) hx
  have hq := div_lt_base (B := 4294967296) hr hx
  have hm : (r * 4294967296 + x) % d < d := Nat.mod_lt _ (by omega)
  obtain ⟨z, hz⟩ : ∃ z, r * 4294967296 + x = z := ⟨_, rfl⟩
  rw [hz] at hor hq hm ⊢
  have hzz : z < 18446744073709551616 := by omega
  have hd1 : ¬ ((d : Int) = 0) := by omega
  have hd2 : ((d : Int) == 0) = false := by simp; omega
  have hb0 : 0 ≤ (z : Int) / (d : Int) := Int.ediv_nonneg (by omega) (by omega)
  have hb1 : (z : Int) / (d : Int) < 4294967296 := by
    have h : ((z / d : Nat) : Int) < 4294967296 := by omega
    exact h
  have hm0 : 0 ≤ (z : Int) % (d : Int) := Int.emod_nonneg _ hd1
  have hm1 : (z : Int) % (d : Int) < 4294967296 := by
    have h : ((z % d : Nat) : Int) < 4294967296 := by omega
    exact h
  have hw1 : IntKind.u64.wrap ((z : Int) / (d : Int)) = (z : Int) / (d : Int) := by rw [IntKind.wrap_u64]; exact Int.emod_eq_of_lt hb0 (Int.lt_trans hb1 (by decide))
  have hw2 : (z : Int) / (d : Int) % 4294967296 = (z : Int) / (d : Int) := Int.emod_eq_of_lt hb0 hb1
  have hw3 : (z : Int) % (d : Int) % 4294967296 = (z : Int) % (d : Int) := Int.emod_eq_of_lt hm0 hm1
  clear hz
  go_enter Tryd.func96, Tryd.ntmps96
  go_wp2_with fail
  go_quiet (fail)
  go_wp2_with fail
  go_ret2
  exact ⟨rfl, _, rfl⟩
theorem div32_tells (r x d : Nat) (w : World) (hr : r < d) (hx : x < 4294967296) (hd : d < 4294967296) :
    Calls Tryd.prog 96 #[.int .u32 (r : Int), .int .u32 (x : Int), .int .u32 (d : Int)] w (Tells (.tuple #[.int .u32 (((r * 4294967296 + x) / d : Nat) : Int), .int .u32 (((r * 4294967296 + x) % d : Nat) : Int)]) w) :=
  (div32_any r x d w hr hx hd).mono fun _ _ ⟨he, n, hw⟩ => ⟨he, by rw [hw]; exact below_drewN (Below.refl _ _) n⟩

/-- only the slice's own block, and what is new, has changed -/
def Only (p : Option Addr) (w w' : World) : Prop := w.grownBy w' (p.map (·.block))
theorem Only.refl (p : Option Addr) (w : World) : Only p w w := World.grownBy.refl w _
theorem only_of_below {a w : World} (h : Below a.heap.size a w) (row : Option Nat) : a.grownBy w row := ⟨h.os, h.tape, h.output, h.size, fun i hi _ => h.block i hi⟩
theorem Only.next {p : Option Addr} {a w w' : World} (h : Only p a w) (hb : Below w.heap.size w w') : Only p a w' := World.grownBy.trans h (only_of_below hb _)
theorem Only.setCell {g : Nat} {a w : World} (h : Only (some ⟨g, 0, none⟩) a w) (k : Nat) (u : Value) : Only (some ⟨g, 0, none⟩) a (w.setCell ⟨g, k, none⟩ u) :=
  ⟨h.os, h.tape, h.output, by simpa [World.setCell] using h.size, fun i hi hne => (Below.heap_setCell w ⟨g, k, none⟩ u i (by
    rintro rfl
    exact hne rfl)).trans (h.block i hi hne)⟩
theorem Only.below {p : Option Addr} {a w : World} {B : Nat} (h : Only p a w) (hB : B ≤ a.heap.size) (hp : ∀ x, p = some x → B ≤ x.block) : Below B a w :=
  ⟨h.os, h.tape, h.output, h.size, fun k hk => h.block k (by omega) (by
    rcases p with _ | x
    · simp
    · intro e
      have := hp x rfl
      have e2 := Option.some.inj e
      simp at e2
      omega)⟩

def VI (a : List Nat) (d k r : Nat) (t : List Nat) : Prop := VInv 4294967296 a d k r t
def DivRel (B : Nat) (w : World) (p : Option Addr) (c : Nat) (a : List Nat) (d : Nat) (v5 v6 : Value) (wr : World) : Prop :=
  ∃ (k r : Nat) (t : List Nat), k ≤ a.length ∧ v6 = .int .i64 ((k : Int) - 1) ∧ v5 = .int .u32 (r : Int) ∧ VI a d k r t ∧ NatO B wr p c t ∧ Only p w wr
/-- divide: the quotient stands where the number stood -/
def DivPost (B : Nat) (w : World) (p : Option Addr) (c : Nat) (a : List Nat) (d : Nat) (e : Ending) (w' : World) : Prop :=
  e = .returned (.int .u32 ((V32 a % d : Nat) : Int)) ∧ (∃ t, V32 t = V32 a / d ∧ t.length = a.length ∧ NatO B w' p c t) ∧ Only p w w'

set_option maxRecDepth 100000 in
set_option maxHeartbeats 1000000 in
theorem divide_any {B : Nat} (p : Option Addr) (c : Nat) (a : List Nat) (d : Nat) (w : World) (h : NatO B w p c a) (hd : 0 < d) (hdl : d < 4294967296) :
    Calls Tryd.prog 81 #[.slice p a.length c, .int .u32 (d : Int)] w (DivPost B w p c a d) := by
  have hcap := h.toV.cap
  have hle := h.toV.le
  unfold maxLen at hcap
  have H := Lib.hid h
  clear h
  go_enter Tryd.func81, Tryd.ntmps81
  go_wp2_with fail
  go_loopw [5, 6] (fun v5 v6 wr => DivRel B w p c a d v5 v6 wr) (fun _ v _ => (intOf v + 1).toNat)
  case atStart => exact ⟨a.length, 0, a, Nat.le_refl _, rfl, rfl, VInv.start H.out.ok hd, H.out, Only.refl _ _⟩
  case round =>
    obtain ⟨k, r, t, hk, rfl, rfl, hV, ho, hb⟩ := hrel
    have hr : r < d := hV.rem
    have HV := Lib.hid (And.intro hV (And.intro ho hb))
    rcases Nat.eq_zero_or_pos k with rfl | hk0
    · clear hV ho hb
      go_wp2_with fail
      go_ret
      obtain ⟨h1, h2⟩ := HV.out.1.done
      exact ⟨by rw [show V32 a % d = r from h2.symm]; rfl, ⟨t, h1, HV.out.1.len, HV.out.2.1⟩, HV.out.2.2⟩
    · obtain ⟨j, rfl⟩ : ∃ j, k = j + 1 := ⟨k - 1, by omega⟩
      have e1 : (((j + 1 : Nat) : Int) - 1) = (j : Int) := by omega
      rw [e1]
      have hja : j < a.length := by omega
      have hjt : j < t.length := by have : t.length = a.length := hV.len; omega
      obtain ⟨x, hx⟩ := some_get hja
      have hxt : t[j]? = some x := (get_of_take hV.rest (by omega)).trans hx
      obtain ⟨g, rfl, hg, hgl, hcells, hfrz⟩ := ho.shape (by omega)
      have hcx := hcells j x hxt
      have hxl : x < 4294967296 := ok_get ho.ok hxt
      have hst := VInv.step H.out.ok hV hx
      have HS := Lib.hid (And.intro hst hxt)
      clear hst hxt hx hcells hfrz hV ho e1 hjt
      go_wp2_with fail
      refine (div32_tells r x d _ hr hxl hdl).mono ?_
      rintro e w1 ⟨rfl, hb1⟩
      have ho1 := HV.out.2.1.next hb1
      have hbb := hb.next hb1
      obtain ⟨g', hg', _, _, hcells1, hfrz1⟩ := ho1.shape (Nat.lt_of_le_of_lt (Nat.zero_le _) (get_lt HS.out.2))
      obtain rfl : g = g' := by simpa using hg'
      have hcx1 := hcells1 j x HS.out.2
      have hfx1 := hfrz1 j
      have hos := NatO.store ho1 j ((r * 4294967296 + x) / d) (div_lt_base hr hxl)
      have HF := Lib.hid (And.intro hos (hbb.setCell j (.int .u32 (((r * 4294967296 + x) / d : Nat) : Int))))
      clear hos hbb hcells1 hfrz1 ho1 hb hb1 hg'
      go_wp2_with fail
      go_roundw
      case rel =>
        exact ⟨j, (r * 4294967296 + x) % d, t.set j ((r * 4294967296 + x) / d), by omega, rfl, rfl, HS.out.1, HF.out.1, HF.out.2⟩
      case measure => simp [intOf]
def EI (a : List Nat) (m c0 i c : Nat) (t : List Nat) : Prop := EInv 4294967296 a m c0 i c t
def ExtRel (B : Nat) (w : World) (p : Option Addr) (cap : Nat) (a : List Nat) (m c0 : Nat) (v7 v14 : Value) (wr : World) : Prop :=
  ∃ (i c : Nat) (t : List Nat), i ≤ a.length ∧ v14 = .int .i64 (i : Int) ∧ v7 = .int .u64 (c : Int) ∧ EI a m c0 i c t ∧ NatO B wr p cap t ∧ Below B w wr
def ExtPost (B : Nat) (w : World) (a : List Nat) (m c0 : Nat) (e : Ending) (w' : World) : Prop :=
  ∃ p' c' t, e = .returned (.slice p' t.length c') ∧ V32 t = V32 a * m + c0 ∧ t.length ≤ a.length + 1 ∧ (nrm a → 1 ≤ m → nrm t) ∧ NatO B w' p' c' t ∧ Below B w w'

set_option maxRecDepth 100000 in
set_option maxHeartbeats 1000000 in
theorem extend_any {B : Nat} (p : Option Addr) (cap : Nat) (a : List Nat) (m c0 : Nat) (w : World) (hB : B ≤ w.heap.size) (h : NatO B w p cap a) (hm : m < 4294967296) (hc0 : c0 < 4294967296) (hal : a.length ≤ 1048576) :
    Calls Tryd.prog 78 #[.slice p a.length cap, .int .u32 (m : Int), .int .u32 (c0 : Int)] w (ExtPost B w a m c0) := by
  obtain ⟨i0, hi, hz0, hz1, hz2⟩ := info_parts info32
  have H := Lib.hid h
  clear h
  go_enter Tryd.func78, Tryd.ntmps78
  go_wp2_with fail
  go_loopw [7, 14] (fun v7 v14 wr => ExtRel B w p cap a m c0 v7 v14 wr) (fun _ v _ => a.length - (intOf v).toNat)
  case atStart => exact ⟨0, c0, a, Nat.zero_le _, rfl, rfl, EInv.start H.out.ok m c0 hc0, H.out, Below.refl _ _⟩
  case round =>
    obtain ⟨i, c, t, hi', rfl, rfl, hE, ho, hb⟩ := hrel
    have hcl : c < 4294967296 := hE.car
    have htl : t.length = a.length := hE.len
    have hwB : B ≤ wr.heap.size := Nat.le_trans hB hb.size
    have HV := Lib.hid (And.intro hE (And.intro ho hb))
    have HTL := Lib.hid htl
    by_cases hlt : i < a.length
    · obtain ⟨x, hx⟩ := some_get hlt
      have hxt : t[i]? = some x := (get_of_drop hE.rest).trans hx
      obtain ⟨g, rfl, hg, hgl, hcells, hfrz⟩ := ho.shape (by omega)
      have hcx := hcells i x hxt
      have hfx := hfrz i
      have hxl : x < 4294967296 := ok_get ho.ok hxt
      have hst := EInv.step H.out.ok hm hE hx
      have hxy : (x : Int) * (m : Int) ≤ 18446744065119617025 := by
        have h1 : x * m ≤ 4294967295 * 4294967295 := Nat.mul_le_mul (by omega) (by omega)
        have h2 : ((x * m : Nat) : Int) ≤ 18446744065119617025 := by omega
        rwa [Int.natCast_mul] at h2
      have hxy0 : 0 ≤ (x : Int) * (m : Int) := Int.mul_nonneg (by omega) (by omega)
      have hos := NatO.store ho i ((c + x * m) % 4294967296) (Nat.mod_lt _ (by omega))
      have HS := Lib.hid (And.intro hst (And.intro hos (hb.setCell (p := ⟨g, i, none⟩) hg (.int .u32 (((c + x * m) % 4294967296 : Nat) : Int)))))
      clear hst hos hxt hx hcells hfrz hE ho hb htl
      go_wp2_with fail
      go_roundw
      case rel =>
        exact ⟨i + 1, (c + x * m) / 4294967296, t.set i ((c + x * m) % 4294967296), by omega, by go_num, rfl, HS.out.1, HS.out.2.1, HS.out.2.2⟩
      case measure => simp [intOf]; omega
    · obtain rfl : i = a.length := by omega
      have hown := ho.own
      rw [htl] at hown
      clear hE ho htl hb
      by_cases hc : c = 0
      · subst hc
        go_wp2_with fail
        go_ret
        refine ⟨p, cap, t, ?_, HV.out.1.done0, by rw [HTL.out]; omega, fun h1 h2 => HV.out.1.nrm0 (by omega) h1 h2, HV.out.2.1, HV.out.2.2⟩
        rw [HTL.out]; rfl
      · have hc1 : ((c : Int) != 0) = true := by simp; omega
        have hlow : (c : Int) % 4294967296 = (c : Int) := Int.emod_eq_of_lt (by omega) (by omega)
        go_wp2_with (at_builtin; refine wpList_append_own _ rfl _ _ 25 rfl B 27 i0 (.int .u32 0) 1 4 Tryd.underlying25 hi hz0 hz1 hz2 rfl (by decide) _ _ _ rfl (hown.alloc _) ⟨wr.heap.size, 0, none⟩ 1 1 [.int .u32 (c : Int)] rfl rfl (cell_one_new _ _ _) ?c2 ?c3 ?c4 ?c5 ?_)
        case c2 => intro u hu; simp at hu; subst hu; rfl
        case c3 => unfold maxLen; omega
        case c4 => omega
        case c5 => simp; omega
        intro v' w1 hown' hgrow _
        rw [← HTL.out] at hown'
        obtain ⟨p1, c1, rfl, ho1⟩ := NatO.snoc (x := c) hown' HV.out.2.1.ok hcl
        have hb1 : Below B w w1 := (HV.out.2.2.alloc hwB _).grown hgrow (by simp; omega) (fun j hj => (hown.lt j hj).1)
        have HO := Lib.hid (And.intro ho1 hb1)
        clear hown hown' hgrow ho1 hb1
        go_wp2_with fail
        go_ret
        refine ⟨p1, c1, t ++ [c], rfl, HV.out.1.done, ?_, fun _ _ => nrm_snoc hc, HO.out.1, HO.out.2⟩
        rw [List.length_append, List.length_singleton, HTL.out]
        exact Nat.le_refl _

/-- slices.Clone of limbs: nil stays nil, else new memory -/
def ClonePost (w : World) (l : List Nat) (e : Ending) (w' : World) : Prop :=
  ∃ p c, e = .returned (.slice p l.length c) ∧ NatO w.heap.size w' p c l ∧ Below w.heap.size w w'
set_option maxRecDepth 100000 in
set_option maxHeartbeats 1000000 in
theorem clone_any (p : Option Addr) (cap : Nat) (l : List Nat) (w : World) (h : NatV w.heap.size w p cap l) (hl : l.length ≤ 1048576) :
    Calls Tryd.prog 80 #[.slice p l.length cap] w (ClonePost w l) := by
  obtain ⟨i0, hi, hz0, hz1, hz2⟩ := info_parts info32
  have H := Lib.hid h
  have hle := h.le
  have hnn := fun (W : World) (a : Option Addr) (n c : Nat) => Lib.run_eql_slice_nil (P := Tryd.prog) W 25 27 a n c 0 0 Tryd.underlying25
  rcases p with _ | a
  · have hc := h.nil rfl
    subst hc
    have hl0 : l = [] := List.eq_nil_of_length_eq_zero (by omega)
    subst hl0
    clear h
    show Calls Tryd.prog 80 #[.slice none 0 0] w (ClonePost w [])
    go_enter Tryd.func80, Tryd.ntmps80
    go_wp2_with fail
    go_ret
    exact ⟨none, 0, rfl, NatO.nothing _ _, Below.refl _ _⟩
  · rcases Nat.eq_zero_or_pos l.length with hl0 | hl0
    · obtain rfl : l = [] := List.eq_nil_of_length_eq_zero hl0
      clear h
      show Calls Tryd.prog 80 #[.slice (some a) 0 cap] w (ClonePost w [])
      go_enter Tryd.func80, Tryd.ntmps80
      go_wp2_with (at_builtin; refine wpList_append_own _ rfl _ _ 25 rfl w.heap.size 27 i0 (.int .u32 0) 1 4 Tryd.underlying25 hi hz0 hz1 hz2 rfl (by decide) _ 0 [] rfl (World.ownsRow_made w #[] 0 (Nat.le_refl _) (Nat.zero_le _) rfl) a 0 cap [] rfl rfl ?c1 ?c2 ?c3 ?c4 ?c5 ?_)
      case c1 => intro j u hj; simp at hj
      case c2 => intro u hu; simp at hu
      case c3 => unfold maxLen; omega
      case c4 => omega
      case c5 => simp
      intro v' w1 hown' hgrow _
      obtain ⟨p1, c1, rfl, ho1⟩ := NatO.slice_own (l := []) hown' (okB_nil _)
      have hb1 : Below w.heap.size w w1 := ((Below.refl _ _).alloc (Nat.le_refl _) _).grown hgrow (by simp) (fun j hj => by have := Option.some.inj hj; simp at this; omega)
      have HO := Lib.hid (And.intro ho1 hb1)
      clear hown' hgrow ho1 hb1
      go_wp2_with fail
      go_ret
      exact ⟨p1, c1, rfl, HO.out.1, HO.out.2⟩
    · obtain ⟨b, off, ha, hb, hc⟩ := h.cell (List.length_pos_iff.1 hl0)
      have HA := Lib.hid ha
      obtain rfl : a = ⟨b, off, none⟩ := by simpa using ha
      have HC := Lib.hid hc
      have hok := Lib.hid h.ok
      clear h hc ha
      go_enter Tryd.func80, Tryd.ntmps80
      go_wp2_with (at_builtin; refine wpList_append_own _ rfl _ _ 25 rfl w.heap.size 27 i0 (.int .u32 0) 1 4 Tryd.underlying25 hi hz0 hz1 hz2 rfl (by decide) _ 0 [] rfl (World.ownsRow_made w #[] 0 (Nat.le_refl _) (Nat.zero_le _) rfl) ⟨b, off, none⟩ l.length cap (cells32 l) rfl ?c0 ?c1 ?c2 ?c3 ?c4 ?c5 ?_)
      case c0 => simp [cells32]
      case c1 =>
        intro j u hj
        unfold cells32 at hj
        rw [List.getElem?_map] at hj
        obtain ⟨x, hx, rfl⟩ := Option.map_eq_some_iff.1 hj
        exact HC.out j x hx
      case c2 =>
        intro u hu
        unfold cells32 at hu
        obtain ⟨x, _, rfl⟩ := List.mem_map.1 hu
        rfl
      case c3 => unfold maxLen; omega
      case c4 => omega
      intro v' w1 hown' hgrow _
      obtain ⟨p1, c1, rfl, ho1⟩ := NatO.slice_own (l := l) (by simpa using hown') hok.out
      have hb1 : Below w.heap.size w w1 := ((Below.refl _ _).alloc (Nat.le_refl _) _).grown hgrow (by simp) (fun j hj => by have := Option.some.inj hj; simp at this; omega)
      have HO := Lib.hid (And.intro ho1 hb1)
      clear hown' hgrow ho1 hb1
      go_wp2_with fail
      go_ret
      exact ⟨p1, c1, by simp, HO.out.1, HO.out.2⟩
end Go.Proofs.YthhighljfjeooaaDoor
