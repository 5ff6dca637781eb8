/- Package nat by its contracts, third part: raise, Sum, Add. -/
import Derived.Test.YthhighljfjeooaaDoorNatB
import Derived.Laws.Rows
namespace Go.Proofs.YthhighljfjeooaaDoor
open Go.RowKit NatM

theorem info32 : (Tryd.prog.info? 27).map (fun i => (i.zero, i.size, i.bytes)) = some (some (.int .u32 0), 1, 4) := by kernel_rfl
theorem cell_one_new (w : World) (v : Value) (t : TypeId) : ∀ j u, [v][j]? = some u → (w.alloc (.cells #[v] t)).cell? ((⟨w.heap.size, 0, none⟩ : Addr).add j) = some u := by
  intro j u hj
  match j, hj with
  | 0, hj => simp at hj; subst hj; simp [Addr.add]
theorem cells32_snoc (l : List Nat) (x : Nat) : cells32 (l ++ [x]) = cells32 l ++ [.int .u32 (x : Int)] := by simp [cells32]
theorem NatO.snoc {base : Nat} {w : World} {v : Value} {l : List Nat} {x : Nat} (h : w.ownsRow base 27 1 v (l.length + 1) (cells32 l ++ [.int .u32 (x : Int)])) (ok : ok32 l) (hx : x < 4294967296) : ∃ p c, v = .slice p (l ++ [x]).length c ∧ NatO base w p c (l ++ [x]) :=
  NatO.slice_own (l := l ++ [x]) (by rw [cells32_snoc, List.length_append]; exact h) (okB_snoc ok hx)
theorem cells32_set (l : List Nat) (k x : Nat) : cells32 (l.set k x) = (cells32 l).set k (.int .u32 (x : Int)) := by simp [cells32, List.map_set]
/-- a store into an own slice of limbs -/
theorem NatO.store {base : Nat} {w : World} {g c : Nat} {l : List Nat} (h : NatO base w (some ⟨g, 0, none⟩) c l) (k x : Nat) (hx : x < 4294967296) :
    NatO base (w.setCell ⟨g, k, none⟩ (.int .u32 (x : Int))) (some ⟨g, 0, none⟩) c (l.set k x) := by
  obtain ⟨s1, _⟩ := h.own.stored k (.int .u32 (x : Int))
  exact ⟨by rw [List.length_set, cells32_set]; exact s1, okB_set h.ok hx k⟩
theorem NatO.shape {base : Nat} {w : World} {p : Option Addr} {c : Nat} {l : List Nat} (h : NatO base w p c l) (hl : 0 < l.length) :
    ∃ g, p = some ⟨g, 0, none⟩ ∧ base ≤ g ∧ g < w.heap.size ∧ (∀ (j x : Nat), l[j]? = some x → w.cell? ⟨g, j, none⟩ = some (.int .u32 (x : Int))) ∧ ∀ j, w.frozen? ⟨g, j, none⟩ = false := by
  rcases own_shape h.own with ⟨_, h0, _⟩ | ⟨g, cap, hv, hg, hlt, hc, hm, hcl, _⟩
  · omega
  · obtain ⟨rfl, rfl⟩ : p = some ⟨g, 0, none⟩ ∧ c = cap := by simpa using hv
    exact ⟨g, rfl, hg, hlt, fun j x hx => (hcl j (get_lt hx)).trans (cells32_get hx), fun j => h.own.frozenAt j⟩

theorem add32_zero (x c : Nat) (w : World) (hx : x < 4294967296) (hc : c ≤ 1) :
    Calls Tryd.prog 103 #[.int .u32 (x : Int), .int .u32 0, .int .u32 (c : Int)] w fun e w' => e = .returned (.tuple #[.int .u32 (((x + 0 + c) % 4294967296 : Nat) : Int), .int .u32 (((x + 0 + c) / 4294967296 : Nat) : Int)]) ∧ w = w' :=
  add32_any x 0 c w hx (by omega) hc

def R32 (s m : List Nat) (k c : Nat) (t : List Nat) : Prop := RInv 4294967296 s m k c t

def RaiseRel (B : Nat) (w : World) (s m : List Nat) (gk : Nat) (v0 v5 v6 : Value) (wr : World) : Prop :=
  ∃ (k c : Nat) (t : List Nat) (p : Option Addr) (cap : Nat), v0 = .slice p t.length cap ∧ v5 = .int .u32 (c : Int) ∧ v6 = .int .i64 (k : Int) ∧ R32 s m k c t ∧ NatO B wr p cap t ∧ Below B w wr ∧ max s.length m.length + 2 - k ≤ gk

def RaisePost (B : Nat) (w : World) (n : Nat) (e : Ending) (w' : World) : Prop :=
  ∃ p c, e = .returned (.slice p (D32 n).length c) ∧ NatO B w' p c (D32 n) ∧ Below B w w'

set_option maxRecDepth 100000 in
set_option maxHeartbeats 4000000 in
theorem raise_any {B : Nat} (p : Option Addr) (c : Nat) (s : List Nat) (q : Option Addr) (d : Nat) (m : List Nat) (w : World) (hB : B ≤ w.heap.size) (hs : NatO B w p c s) (hsn : nrm s) (hm : NatV B w q d m) (hmn : nrm m)
    (hsl : s.length ≤ 1048576) (hml : m.length ≤ 1048576) :
    Calls Tryd.prog 90 #[.slice p s.length c, .slice q m.length d] w (RaisePost B w (V32 s + V32 m)) := by
  obtain ⟨i0, hi, hz0, hz1, hz2⟩ := info_parts info32
  have hdle := hm.le
  have H := Lib.hid (And.intro hs.ok (And.intro hsn (And.intro hm hmn)))
  have HS := Lib.hid hs
  clear hs hsn hm hmn
  go_enter Tryd.func90, Tryd.ntmps90
  go_wp2_with fail
  go_loopg [0, 5, 6] (max s.length m.length + 2) (fun gk v0 v5 v6 wr => RaiseRel B w s m gk v0 v5 v6 wr)
  case atStart => exact ⟨0, 0, s, p, c, rfl, rfl, rfl, RInv.start H.out.1, HS.out, Below.refl _ _, by omega⟩
  case round =>
    obtain ⟨k, c, t, p, cap, rfl, rfl, rfl, hr, ho, hb, hgk⟩ := hrel
    have hkb := hr.bnd
    have hc1 := hr.car
    have htl := hr.len
    have HTL := Lib.hid htl
    have hwB : B ≤ wr.heap.size := Nat.le_trans hB hb.size
    have HR := Lib.hid (And.intro hr (And.intro ho hb))
    by_cases hgo : k < m.length ∨ c ≠ 0
    · obtain ⟨x, hx⟩ := grown_get hr
      have hstep := RInv.step (B := 4294967296) (by omega) H.out.1 H.out.2.2.1.ok hr hgo hx
      have HX := Lib.hid (And.intro hx hstep)
      have HGO := Lib.hid hgo
      have hkm : k ≤ 1048577 := by omega
      have htl2 : t.length ≤ 1048577 := by omega
      clear hx hstep hr ho htl
      have hgl : (grown t k).length ≤ 1048578 := by
        unfold grown
        split
        · rw [List.length_append, List.length_singleton]; omega
        · omega
      have HGL := Lib.hid hgl
      clear hgl
      by_cases hkm1 : k < m.length
      · clear hgo
        go_upto_if 21 with fail
        go_cut [0] (fun v0 wx => ∃ p0 cap0, v0 = .slice p0 (grown t k).length cap0 ∧ NatO B wx p0 cap0 (grown t k) ∧ Below B w wx)
        case first =>
          by_cases hkt : k = t.length
          · have hkt2 : ((k : Int) == (t.length : Int)) = true := by simp; omega
            have hgr : grown t k = t ++ [0] := by unfold grown; rw [if_pos hkt]
            have HGR := Lib.hid hgr
            have hown := HR.out.2.1.own
            have hkt4 : (k == t.length) = true := by simp; omega
            clear hkt hgr hb
            go_wp2_with (at_builtin; refine wpList_append_own _ rfl _ _ 25 rfl B 27 i0 (.int .u32 0) 1 4 Tryd.underlying25 hi hz0 hz1 hz2 rfl (by decide) _ _ _ rfl (hown.alloc _) ⟨wr.heap.size, 0, none⟩ 1 1 [.int .u32 0] rfl rfl (cell_one_new _ _ _) ?c2 ?c3 ?c4 ?c5 ?_)
            case c2 => intro u hu; simp at hu; subst hu; rfl
            case c3 => unfold maxLen; omega
            case c4 => omega
            case c5 => simp; omega
            intro v' w1 hown' hgrow _
            obtain ⟨p0, cap0, rfl, ho1⟩ := NatO.snoc (x := 0) hown' HR.out.2.1.ok (by omega)
            have hb1 : Below B w w1 := (HR.out.2.2.alloc hwB _).grown hgrow (by simp; omega) (fun j hj => (hown.lt j hj).1)
            have HO := Lib.hid (And.intro ho1 hb1)
            clear hown hown' hgrow ho1 hb1
            go_wp2_with fail
            go_meet
            exact ⟨p0, cap0, by rw [HGR.out], by rw [HGR.out]; exact HO.out.1, HO.out.2⟩
          · have hkt2 : ((k : Int) == (t.length : Int)) = false := by simp; omega
            have hgr : grown t k = t := by unfold grown; rw [if_neg hkt]
            have HGR := Lib.hid hgr
            clear hkt hgr
            go_wp2_with fail
            go_meet
            exact ⟨p, cap, by rw [HGR.out], by rw [HGR.out]; exact HR.out.2.1, HR.out.2.2⟩
        case rest =>
          obtain ⟨p0, cap0, rfl, ho1, hb1⟩ := hcut
          have hlim : limbAt m k < 4294967296 := limb_lt (by omega) H.out.2.2.1.ok k
          obtain ⟨y, hy⟩ : ∃ y, limbAt m k = y := ⟨_, rfl⟩
          rw [hy] at HX hlim
          obtain ⟨g, rfl, hg, hgl2, hcells, hfrz⟩ := ho1.shape (Nat.lt_of_le_of_lt (Nat.zero_le _) (get_lt HX.out.1))
          have hcx := hcells k x HX.out.1
          have hfx := hfrz k
          have hxl : x < 4294967296 := ok_get ho1.ok HX.out.1
          have hkl : k < (grown t k).length := get_lt HX.out.1
          have HO := Lib.hid (And.intro ho1 hb1)
          have HY := Lib.hid hy
          obtain ⟨L, hL⟩ : ∃ L, (grown t k).length = L := ⟨_, rfl⟩
          rw [hL] at hkl ⊢
          have HL := Lib.hid hL
          clear ho1 hcells hfrz hy hL hb
          obtain ⟨bm, off, rfl, hbm, hcm⟩ := (H.out.2.2.1.below HO.out.2).cell (List.length_pos_iff.1 (by omega))
          have hcy : wc.cell? ⟨bm, off + k, none⟩ = some (.int .u32 (y : Int)) := by
            obtain ⟨y', hy'⟩ := some_get hkm1
            rw [← HY.out, limb_some hy']
            exact hcm k y' hy'
          clear hcm
          go_wp2_with (go_at_call 103; refine (add32_any x y c _ hxl hlim hc1).mono ?_; rintro e w' ⟨rfl, rfl⟩)
          have hn := NatO.store HO.out.1 k ((x + y + c) % 4294967296) (Nat.mod_lt _ (by omega))
          have HN := Lib.hid hn
          clear hn
          go_roundg (max s.length m.length + 2 - (k + 1))
          case rel =>
            refine ⟨k + 1, (x + y + c) / 4294967296, (grown t k).set k ((x + y + c) % 4294967296), some ⟨g, 0, none⟩, cap0, ?_, rfl, by go_num, HX.out.2, HN.out, HO.out.2.setCell hg _, by omega⟩
            rw [List.length_set, HL.out]
          case measure => omega
      · have hc0 : ((c : Int) != 0) = true := by simp; omega
        clear hgo
        go_upto_if 21 with fail
        go_cut [0] (fun v0 wx => ∃ p0 cap0, v0 = .slice p0 (grown t k).length cap0 ∧ NatO B wx p0 cap0 (grown t k) ∧ Below B w wx)
        case first =>
          by_cases hkt : k = t.length
          · have hkt2 : ((k : Int) == (t.length : Int)) = true := by simp; omega
            have hgr : grown t k = t ++ [0] := by unfold grown; rw [if_pos hkt]
            have HGR := Lib.hid hgr
            have hown := HR.out.2.1.own
            have hkt4 : (k == t.length) = true := by simp; omega
            clear hkt hgr hb
            go_wp2_with (at_builtin; refine wpList_append_own _ rfl _ _ 25 rfl B 27 i0 (.int .u32 0) 1 4 Tryd.underlying25 hi hz0 hz1 hz2 rfl (by decide) _ _ _ rfl (hown.alloc _) ⟨wr.heap.size, 0, none⟩ 1 1 [.int .u32 0] rfl rfl (cell_one_new _ _ _) ?c2 ?c3 ?c4 ?c5 ?_)
            case c2 => intro u hu; simp at hu; subst hu; rfl
            case c3 => unfold maxLen; omega
            case c4 => omega
            case c5 => simp; omega
            intro v' w1 hown' hgrow _
            obtain ⟨p0, cap0, rfl, ho1⟩ := NatO.snoc (x := 0) hown' HR.out.2.1.ok (by omega)
            have hb1 : Below B w w1 := (HR.out.2.2.alloc hwB _).grown hgrow (by simp; omega) (fun j hj => (hown.lt j hj).1)
            have HO := Lib.hid (And.intro ho1 hb1)
            clear hown hown' hgrow ho1 hb1
            go_wp2_with fail
            go_meet
            exact ⟨p0, cap0, by rw [HGR.out], by rw [HGR.out]; exact HO.out.1, HO.out.2⟩
          · have hkt2 : ((k : Int) == (t.length : Int)) = false := by simp; omega
            have hgr : grown t k = t := by unfold grown; rw [if_neg hkt]
            have HGR := Lib.hid hgr
            clear hkt hgr
            go_wp2_with fail
            go_meet
            exact ⟨p, cap, by rw [HGR.out], by rw [HGR.out]; exact HR.out.2.1, HR.out.2.2⟩
        case rest =>
          obtain ⟨p0, cap0, rfl, ho1, hb1⟩ := hcut
          have hlim : limbAt m k < 4294967296 := limb_lt (by omega) H.out.2.2.1.ok k
          obtain ⟨y, hy⟩ : ∃ y, limbAt m k = y := ⟨_, rfl⟩
          rw [hy] at HX hlim
          obtain ⟨g, rfl, hg, hgl2, hcells, hfrz⟩ := ho1.shape (Nat.lt_of_le_of_lt (Nat.zero_le _) (get_lt HX.out.1))
          have hcx := hcells k x HX.out.1
          have hfx := hfrz k
          have hxl : x < 4294967296 := ok_get ho1.ok HX.out.1
          have hkl : k < (grown t k).length := get_lt HX.out.1
          have HO := Lib.hid (And.intro ho1 hb1)
          have HY := Lib.hid hy
          obtain ⟨L, hL⟩ : ∃ L, (grown t k).length = L := ⟨_, rfl⟩
          rw [hL] at hkl ⊢
          have HL := Lib.hid hL
          clear ho1 hcells hfrz hy hL hb
          have hy0 : y = 0 := by rw [← HY.out, limb_none (by omega)]
          subst hy0
          go_wp2_with (go_at_call 103; refine (add32_zero x c _ hxl hc1).mono ?_; rintro e w' ⟨rfl, rfl⟩)
          have hn := NatO.store HO.out.1 k ((x + 0 + c) % 4294967296) (Nat.mod_lt _ (by omega))
          have HN := Lib.hid hn
          clear hn
          go_roundg (max s.length m.length + 2 - (k + 1))
          case rel =>
            refine ⟨k + 1, (x + 0 + c) / 4294967296, (grown t k).set k ((x + 0 + c) % 4294967296), some ⟨g, 0, none⟩, cap0, ?_, rfl, by go_num, HX.out.2, HN.out, HO.out.2.setCell hg _, by omega⟩
            rw [List.length_set, HL.out]
          case measure => omega
    · have hc0 : c = 0 := by omega
      have hkm : m.length ≤ k := by omega
      subst hc0
      have hd : D32 (V32 s + V32 m) = t := RInv.done (B := 4294967296) (by omega) H.out.2.1 H.out.2.2.2 hr hkm
      have HD := Lib.hid hd
      clear hd hr ho hb hgo htl hgk
      go_wp2_with fail
      go_ret
      refine ⟨p, cap, by rw [HD.out]; rfl, ?_, HR.out.2.2⟩
      rw [HD.out]
      exact HR.out.2.1
/-! ### Sum, Add -/
abbrev Nt := Option Addr × Nat × List Nat
def Nt.val (x : Nt) : Value := .slice x.1 x.2.2.length x.2.1
/-- A slice of numbers. -/
structure NatsV (B : Nat) (w : World) (q : Option Addr) (c : Nat) (L : List Nt) : Prop where
  le : L.length ≤ c
  cap : c ≤ maxLen
  cell : L ≠ [] → ∃ b off, q = some ⟨b, off, none⟩ ∧ b < B ∧ ∀ (j : Nat) (x : Nt), L[j]? = some x → w.cell? ⟨b, off + j, none⟩ = some x.val
  each : ∀ x : Nt, x ∈ L → NatV B w x.1 x.2.1 x.2.2
theorem NatsV.below {B : Nat} {w w' : World} {q : Option Addr} {c : Nat} {L : List Nt} (hb : Below B w w') (h : NatsV B w q c L) : NatsV B w' q c L :=
  ⟨h.le, h.cap, fun hn => by
    obtain ⟨b, off, hp, hlt, hc⟩ := h.cell hn
    exact ⟨b, off, hp, hlt, fun j x hx => (hb.cell (p := ⟨b, off + j, none⟩) hlt).trans (hc j x hx)⟩, fun x hx => (h.each x hx).below hb⟩
theorem NatsV.mono {B B' : Nat} {w : World} {q : Option Addr} {c : Nat} {L : List Nt} (hB : B ≤ B') (h : NatsV B w q c L) : NatsV B' w q c L :=
  ⟨h.le, h.cap, fun hn => by
    obtain ⟨b, off, hp, hlt, hc⟩ := h.cell hn
    exact ⟨b, off, hp, by omega, hc⟩, fun x hx => (h.each x hx).mono hB⟩
/-- a slice literal of numbers, just laid -/
theorem NatsV.laid {w : World} (L : List Nt) (cs : Array Value) (t : TypeId) (hc : cs.toList = L.map Nt.val) (hl : L.length ≤ 1000) (h : ∀ x : Nt, x ∈ L → NatV w.heap.size w x.1 x.2.1 x.2.2) :
    NatsV (w.alloc (.cells cs t)).heap.size (w.alloc (.cells cs t)) (some ⟨w.heap.size, 0, none⟩) L.length L := by
  have hB : Below w.heap.size w (w.alloc (.cells cs t)) := (Below.refl _ _).alloc (Nat.le_refl _) _
  refine ⟨Nat.le_refl _, by unfold maxLen; omega, fun _ => ⟨w.heap.size, 0, rfl, by simp, fun j x hx => ?_⟩, fun x hx => (h x hx).next hB⟩
  rw [Nat.zero_add, cell_alloc_row, ← Array.getElem?_toList, hc]
  simp [hx]
def sumV (L : List Nt) : Nat := (L.map fun x : Nt => V32 x.2.2).sum
theorem sumV_take {L : List Nt} {k : Nat} {x : Nt} (h : L[k]? = some x) : sumV (L.take (k + 1)) = sumV (L.take k) + V32 x.2.2 := by
  obtain ⟨hk, rfl⟩ := List.getElem?_eq_some_iff.1 h
  unfold sumV
  rw [List.take_succ_eq_append_getElem hk, List.map_append, List.sum_append]
  simp
theorem sumV_le {M : Nat} : ∀ {L : List Nt}, (∀ x : Nt, x ∈ L → ok32 x.2.2 ∧ x.2.2.length ≤ M) → sumV L ≤ L.length * 4294967296 ^ M
  | [], _ => by simp [sumV]
  | x :: L, h => by
    have ih := sumV_le (L := L) (fun y hy => h y (List.mem_cons_of_mem _ hy))
    obtain ⟨h1, h2⟩ := h x List.mem_cons_self
    have h3 := V32_lt h1
    have h4 : 4294967296 ^ x.2.2.length ≤ 4294967296 ^ M := Nat.pow_le_pow_right (by omega) h2
    have e : sumV (x :: L) = V32 x.2.2 + sumV L := by simp [sumV]
    rw [e, List.length_cons, Nat.add_mul]
    omega
theorem sumV_len {M : Nat} {L : List Nt} (h : ∀ x : Nt, x ∈ L → ok32 x.2.2 ∧ x.2.2.length ≤ M) (hl : L.length ≤ 1000) : (D32 (sumV L)).length ≤ M + 1 := by
  refine D32_len (Nat.lt_of_le_of_lt (sumV_le h) ?_)
  rw [Nat.pow_succ, Nat.mul_comm]
  exact Nat.mul_lt_mul_of_pos_left (by omega) (Nat.pow_pos (by omega))

def SumRel (w : World) (L : List Nt) (v3 v8 : Value) (wr : World) : Prop :=
  ∃ (k : Nat) (p : Option Addr) (cap : Nat), k ≤ L.length ∧ v8 = .int .i64 (k : Int) ∧ v3 = .slice p (D32 (sumV (L.take k))).length cap ∧ NatO w.heap.size wr p cap (D32 (sumV (L.take k))) ∧ Below w.heap.size w wr
def NatPost (w : World) (n : Nat) (e : Ending) (w' : World) : Prop := RaisePost w.heap.size w n e w'
theorem NatO.nothing (base : Nat) (w : World) : NatO base w none 0 [] := ⟨World.ownsRow_nil _ _ _ _, okB_nil _⟩

set_option maxHeartbeats 1000000 in
theorem sum_any (q : Option Addr) (n c : Nat) (L : List Nt) (w : World) (hn : n = L.length) (h : NatsV w.heap.size w q c L) (hl : L.length ≤ 1000) (hle : ∀ x : Nt, x ∈ L → x.2.2.length ≤ 100000) :
    Calls Tryd.prog 62 #[.slice q n c] w (NatPost w (sumV L)) := by
  subst hn
  have hlc := h.le
  have hcap := h.cap
  unfold maxLen at hcap
  have hall : ∀ k, ∀ x : Nt, x ∈ L.take k → ok32 x.2.2 ∧ x.2.2.length ≤ 100000 := fun k x hx => ⟨(h.each x (List.mem_of_mem_take hx)).ok, hle x (List.mem_of_mem_take hx)⟩
  have H := Lib.hid (And.intro h hall)
  have HLE := Lib.hid hle
  clear h hall hle
  go_enter Tryd.func62, Tryd.ntmps62
  go_wp2_with fail
  go_loopw [3, 8] (fun v3 v8 wr => SumRel w L v3 v8 wr) (fun _ i _ => L.length - (intOf i).toNat)
  case atStart =>
    have hz : D32 (sumV (L.take 0)) = [] := D32_nil.2 (by simp [sumV])
    refine ⟨0, none, 0, Nat.zero_le _, rfl, by rw [hz]; rfl, ?_, Below.refl _ _⟩
    rw [hz]
    exact NatO.nothing _ _
  case round =>
    obtain ⟨k, p, cap, hk, rfl, rfl, ho, hb⟩ := hrel
    have HO := Lib.hid (And.intro ho hb)
    by_cases hlt : k < L.length
    · obtain ⟨x, hx⟩ : ∃ x, L[k]? = some x := ⟨_, List.getElem?_eq_getElem hlt⟩
      have hmem : x ∈ L := List.mem_of_getElem? hx
      have hV := H.out.1.below hb
      obtain ⟨bl, off, rfl, hbl, hcl⟩ := hV.cell (by rintro rfl; simp at hlt)
      have hcx := hcl k x hx
      have hxv := hV.each x hmem
      have hxl := HLE.out x hmem
      have hs := sumV_take hx
      obtain ⟨xa, xc, xl⟩ := x
      have hcx : wr.cell? ⟨bl, off + k, none⟩ = some (.slice xa xl.length xc) := hcx
      have hxv : NatV w.heap.size wr xa xc xl := hxv
      have hs : sumV (L.take (k + 1)) = sumV (L.take k) + V32 xl := hs
      have hsl : (D32 (sumV (L.take k))).length ≤ 100001 := sumV_len (H.out.2 k) (by rw [List.length_take]; omega)
      have hxt := hxv.trim
      have hxlt : (D32 (V32 xl)).length ≤ 100000 := Nat.le_trans (D32_le hxv.ok) hxl
      have HX := Lib.hid (And.intro hxv (And.intro hxt hs))
      have hwb := hb.size
      have HSL := Lib.hid (And.intro hsl hxlt)
      clear hx hmem hV hcl hxv hs hxt ho hb hxl hsl hxlt
      go_wp2_with fail
      refine (trim_any xa xc xl _ HX.out.1).mono ?_
      rintro e w' ⟨rfl, rfl⟩
      go_wp2_with fail
      refine (raise_any (B := w.heap.size) _ _ _ _ _ _ _ hwb HO.out.1 (D32_nrm _) HX.out.2.1 (D32_nrm _) (by have := HSL.out.1; omega) (by have := HSL.out.2; omega)).mono ?_
      rintro e w2 ⟨p2, c2, rfl, ho2, hb2⟩
      rw [V32_D32, V32_D32, ← HX.out.2.2] at ho2 ⊢
      have HP := Lib.hid (And.intro ho2 (HO.out.2.trans hb2))
      clear ho2 hb2
      go_wp2_with fail
      go_roundw
      case rel => exact ⟨k + 1, p2, c2, by omega, by go_num, by rw [HX.out.2.2], HP.out.1, HP.out.2⟩
      case measure => simp [intOf]; omega
    · obtain rfl : k = L.length := by omega
      have he : L.take L.length = L := List.take_length
      have HE := Lib.hid he
      clear he
      go_wp2_with fail
      go_ret
      have h2 := HO.out
      rw [HE.out] at h2
      exact ⟨p, cap, by rw [HE.out]; rfl, h2⟩

set_option maxHeartbeats 1000000 in
theorem add_any (p q : Option Addr) (c d : Nat) (l m : List Nat) (w : World) (h : NatV w.heap.size w p c l) (k : NatV w.heap.size w q d m) (hl : l.length ≤ 100000) (hm : m.length ≤ 100000) :
    Calls Tryd.prog 35 #[.slice p l.length c, .slice q m.length d] w (NatPost w (V32 l + V32 m)) := by
  have hB : Below w.heap.size w (w.alloc (.cells #[.slice p l.length c, .slice q m.length d] 25)) := (Below.refl _ _).alloc (Nat.le_refl _) _
  have hV := NatsV.laid (w := w) [(p, c, l), (q, d, m)] #[.slice p l.length c, .slice q m.length d] 25 rfl (by simp) (fun x hx => by
    simp at hx
    rcases hx with rfl | rfl
    · exact h
    · exact k)
  have hC := sum_any _ 2 2 [(p, c, l), (q, d, m)] _ rfl hV (by simp) (fun x hx => by
    simp at hx
    rcases hx with rfl | rfl
    · exact hl
    · exact hm)
  have HB := Lib.hid hB
  clear hB hV h k
  go_enter Tryd.func35, Tryd.ntmps35
  go_wp2_with fail
  refine hC.mono ?_
  clear hC
  rintro e w2 ⟨p2, c2, rfl, ho2, hb2⟩
  have e2 : sumV [(p, c, l), (q, d, m)] = V32 l + V32 m := by simp [sumV]
  rw [e2] at ho2 ⊢
  have HO := Lib.hid (And.intro ho2 hb2)
  clear ho2 hb2 e2
  go_wp2_with fail
  go_ret
  exact ⟨p2, c2, rfl, HO.out.1.base (by simp), HB.out.trans (HO.out.2.mono (by simp))⟩
end Go.Proofs.YthhighljfjeooaaDoor
