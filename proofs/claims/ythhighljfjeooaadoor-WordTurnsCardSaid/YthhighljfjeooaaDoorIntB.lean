/- Lists of ints: slices.Clone, slices.Reverse. -/
import Derived.Test.YthhighljfjeooaaDoorIntA
import Derived.Test.YthhighljfjeooaaDoorNatT
import Derived.WalkSpells
import Derived.Maps.AppendAt
import Derived.OwnWalk
import Derived.Laws.MakeOwn
import Derived.RegionTactic
import Derived.ChangeAlike
namespace Go.Proofs.YthhighljfjeooaaDoor
open Go.RowKit NatM

theorem infoI : (Tryd.prog.info? 3).map (fun i => (i.zero, i.size, i.bytes)) = some (some (.int .i64 0), 1, 8) := by kernel_rfl
theorem cI_set (l : List Int) (k : Nat) (x : Int) : cI (l.set k x) = (cI l).set k (.int .i64 x) := by simp [cI, List.map_set]
set_option maxRecDepth 100000 in
set_option maxHeartbeats 1000000 in
theorem cloneI_any (p : Option Addr) (cap : Nat) (l : List Int) (w : World) (h : IntV w.heap.size w p cap l) (hl : l.length ≤ 17592186044000) :
    Calls Tryd.prog 72 #[.slice p l.length cap] w (IntPost w l) := by
  obtain ⟨i0, hi, hz0, hz1, hz2⟩ := info_parts infoI
  have H := Lib.hid h
  have hle := h.le
  have hnn := fun (W : World) (a : Option Addr) (n c : Nat) => Lib.run_eql_slice_nil (P := Tryd.prog) W 40 3 a n c 0 0 Tryd.underlying40
  rcases p with _ | a
  · have hc := h.nil rfl
    subst hc
    have hl0 : l = [] := List.eq_nil_of_length_eq_zero (by omega)
    subst hl0
    clear h
    show Calls Tryd.prog 72 #[.slice none 0 0] w (IntPost w [])
    go_enter Tryd.func72, Tryd.ntmps72
    go_wp2_with fail
    go_ret
    exact ⟨none, 0, rfl, IntO.nothing _ _, Below.refl _ _⟩
  · rcases Nat.eq_zero_or_pos l.length with hl0 | hl0
    · obtain rfl : l = [] := List.eq_nil_of_length_eq_zero hl0
      clear h
      show Calls Tryd.prog 72 #[.slice (some a) 0 cap] w (IntPost w [])
      go_enter Tryd.func72, Tryd.ntmps72
      go_wp2_with (at_builtin; refine wpList_append_own _ rfl _ _ 40 rfl w.heap.size 3 i0 (.int .i64 0) 1 8 Tryd.underlying40 hi hz0 hz1 hz2 rfl (by decide) _ 0 [] rfl (World.ownsRow_made w #[] 0 (Nat.le_refl _) (Nat.zero_le _) rfl) a 0 cap [] rfl rfl ?c1 ?c2 ?c3 ?c4 ?c5 ?_)
      case c1 => intro j u hj; simp at hj
      case c2 => intro u hu; simp at hu
      case c3 => unfold maxLen; omega
      case c4 => omega
      case c5 => simp
      intro v' w1 hown' hgrow _
      obtain ⟨p1, c1, rfl, ho1⟩ := IntO.slice_own (l := []) hown'
      have hb1 : Below w.heap.size w w1 := ((Below.refl _ _).alloc (Nat.le_refl _) _).grown hgrow (by simp) (fun j hj => by have := Option.some.inj hj; simp at this; omega)
      have HO := Lib.hid (And.intro ho1 hb1)
      clear hown' hgrow ho1 hb1
      go_wp2_with fail
      go_ret
      exact ⟨p1, c1, rfl, HO.out.1, HO.out.2⟩
    · obtain ⟨b, off, ha, hb, hc⟩ := h.cell (List.length_pos_iff.1 hl0)
      have HA := Lib.hid ha
      obtain rfl : a = ⟨b, off, none⟩ := by simpa using ha
      have HC := Lib.hid hc
      clear h hc ha
      go_enter Tryd.func72, Tryd.ntmps72
      go_wp2_with (at_builtin; refine wpList_append_own _ rfl _ _ 40 rfl w.heap.size 3 i0 (.int .i64 0) 1 8 Tryd.underlying40 hi hz0 hz1 hz2 rfl (by decide) _ 0 [] rfl (World.ownsRow_made w #[] 0 (Nat.le_refl _) (Nat.zero_le _) rfl) ⟨b, off, none⟩ l.length cap (cI l) rfl ?c0 ?c1 ?c2 ?c3 ?c4 ?c5 ?_)
      case c0 => simp [cI]
      case c1 =>
        intro j u hj
        unfold cI at hj
        rw [List.getElem?_map] at hj
        obtain ⟨x, hx, rfl⟩ := Option.map_eq_some_iff.1 hj
        exact HC.out j x hx
      case c2 =>
        intro u hu
        unfold cI at hu
        obtain ⟨x, _, rfl⟩ := List.mem_map.1 hu
        rfl
      case c3 => unfold maxLen; omega
      case c4 => omega
      intro v' w1 hown' hgrow _
      obtain ⟨p1, c1, rfl, ho1⟩ := IntO.slice_own (l := l) (by simpa using hown')
      have hb1 : Below w.heap.size w w1 := ((Below.refl _ _).alloc (Nat.le_refl _) _).grown hgrow (by simp) (fun j hj => by have := Option.some.inj hj; simp at this; omega)
      have HO := Lib.hid (And.intro ho1 hb1)
      clear hown' hgrow ho1 hb1
      go_wp2_with fail
      go_ret
      exact ⟨p1, c1, by simp, HO.out.1, HO.out.2⟩
def RevRelI (w : World) (base g cap : Nat) (xs : List Int) (v2 v3 : Value) (wr : World) : Prop :=
  ∃ (k : Nat) (zs : List Int), 2 * k ≤ xs.length ∧ v2 = .int .i64 (k : Int) ∧ v3 = .int .i64 ((xs.length : Int) - 1 - (k : Int)) ∧ RevAt xs zs k ∧ wr.ownsRow base 3 1 (.slice (some ⟨g, 0, none⟩) xs.length cap) xs.length (cI zs) ∧ w.grownBy wr (some g)
def RevPostI (w : World) (base g cap : Nat) (xs : List Int) (e : Ending) (w' : World) : Prop :=
  e = .returned (.tuple #[]) ∧ w'.ownsRow base 3 1 (.slice (some ⟨g, 0, none⟩) xs.length cap) xs.length (cI xs.reverse) ∧ w.grownBy w' (some g)

set_option maxHeartbeats 1000000 in
theorem reverseI_any (base g cap : Nat) (xs : List Int) (w : World) (hl : xs.length ≤ 9223372036854775807) (h : w.ownsRow base 3 1 (.slice (some ⟨g, 0, none⟩) xs.length cap) xs.length (cI xs)) :
    Calls Tryd.prog 73 #[.slice (some ⟨g, 0, none⟩) xs.length cap] w (RevPostI w base g cap xs) := by
  have H := Lib.hid h
  clear h
  go_enter Tryd.func73, Tryd.ntmps73
  go_wp2_with fail
  go_loopw [2, 3] (fun v2 v3 wr => RevRelI w base g cap xs v2 v3 wr) (fun v _ _ => xs.length - (intOf v).toNat)
  case atStart => exact ⟨0, xs, Nat.zero_le _, rfl, by go_num, RevAt.start xs, H.out, World.grownBy.refl _ _⟩
  case round =>
    obtain ⟨k, zs, hk, rfl, rfl, hR, ho, hb⟩ := hrel
    have HR := Lib.hid (And.intro hR (And.intro ho hb))
    by_cases hgo : 2 * k + 1 < xs.length
    · obtain ⟨j, hj⟩ : ∃ j, xs.length - 1 - k = j := ⟨_, rfl⟩
      have e1 : ((xs.length : Int) - 1 - (k : Int)) = (j : Int) := by omega
      rw [e1]
      have hzl : zs.length = xs.length := hR.1
      obtain ⟨x, hx⟩ : ∃ x, zs[k]? = some x := ⟨_, List.getElem?_eq_getElem (by omega)⟩
      obtain ⟨y, hy⟩ : ∃ y, zs[j]? = some y := ⟨_, List.getElem?_eq_getElem (by omega)⟩
      have hcx : wr.cell? ⟨g, k, none⟩ = some (.int .i64 x) := (ho.cellAt k (by omega)).trans (cI_get hx)
      have hcy : wr.cell? ⟨g, j, none⟩ = some (.int .i64 y) := (ho.cellAt j (by omega)).trans (cI_get hy)
      have hfx : wr.frozen? ⟨g, k, none⟩ = false := ho.frozenAt k
      have hfy : wr.frozen? ⟨g, j, none⟩ = false := ho.frozenAt j
      have hkj : k < j := by omega
      have hjn : j < xs.length := by omega
      have hkn : k < xs.length := by omega
      have hne : ¬ k = j := by omega
      have hne2 : ¬ j = k := by omega
      have hst := hR.step hgo hx (by rw [hj]; exact hy)
      rw [hj] at hst
      obtain ⟨s1, t1⟩ := ho.stored k (.int .i64 y)
      obtain ⟨s2, t2⟩ := s1.stored j (.int .i64 x)
      rw [← cI_set, ← cI_set] at s2
      have HS := Lib.hid (And.intro hst (And.intro s2 (And.intro (World.grownBy.trans (World.grownBy.trans hb t1) t2) hj)))
      clear hst hj hzl e1 hR ho hb hx hy s1 s2 t1 t2
      go_wp2_with fail
      go_region
      go_wp2_with fail
      go_roundw
      case rel => exact ⟨k + 1, (zs.set k y).set j x, by omega, by go_num, by have := HS.out.2.2.2; go_num, HS.out.1, HS.out.2.1, only_drew HS.out.2.2.1⟩
      case measure => simp [intOf]; omega
    · have hd : zs = xs.reverse := hR.done (by omega)
      have HD := Lib.hid hd
      clear hd hR ho hb
      go_wp2_with fail
      go_end0
      exact ⟨rfl, by have := HR.out.2.1; rwa [HD.out] at this, HR.out.2.2⟩
end Go.Proofs.YthhighljfjeooaaDoor
