/- Package word by its contracts, fourth part: Next. -/
import Derived.Test.YthhighljfjeooaaDoorWordA
import Derived.Test.YthhighljfjeooaaDoorWordB
namespace Go.Proofs.YthhighljfjeooaaDoor
open Go.RowKit Go.Extern.Stop Go.Stop Go.Extern WordM

/-- the word behind it, and no error -/
def NextOk (w : World) (k : Nat) (l : List Int) (e : Ending) (w' : World) : Prop := ∃ x, IsNext k l x ∧ IntOk w x e w'

theorem set_mid {l : List Int} {i : Nat} {y v : Int} (h : l[i]? = some y) (n : Nat) (z : Int) : (l.take (i + 1) ++ List.replicate n z).set i v = l.take i ++ v :: List.replicate n z := by
  have hi := ltI h
  have e : l.take (i + 1) = l.take i ++ [y] := by rw [List.take_add_one, h]; rfl
  rw [e, List.append_assoc, List.set_append_right _ _ (by rw [List.length_take]; omega), List.length_take, Nat.min_eq_left (by omega), Nat.sub_self]
  rfl
theorem take_rep {l : List Int} {i n : Nat} {y z : Int} (h : l[i]? = some y) (e : l = l.take (i + 1) ++ List.replicate n z) : l = l.take i ++ y :: List.replicate n z := by
  have e2 : l.take (i + 1) = l.take i ++ [y] := by rw [List.take_add_one, h]; rfl
  rw [e2, List.append_assoc] at e
  exact e
def NextRel (w : World) (k : Nat) (l : List Int) (p : Option Addr) (c : Nat) (v : Value) (wr : World) : Prop :=
  ∃ j : Nat, j ≤ l.length ∧ v = .int .i64 ((j : Int) - 1) ∧ l = l.take j ++ List.replicate (l.length - j) ((k : Int) - 1) ∧ IntO w.heap.size wr p c (l.take j ++ List.replicate (l.length - j) 0) ∧ Below w.heap.size w wr
set_option maxRecDepth 100000 in
set_option maxHeartbeats 4000000 in
theorem next_any (k : Nat) (p : Option Addr) (n c : Nat) (l : List Int) (w : World) (hn : n = l.length) (h : IntV w.heap.size w p c l) (hc : chkW k l = none) (hlast : l.length < 4096 ∨ l ≠ List.replicate l.length ((k : Int) - 1)) :
    Calls Tryd.prog 33 #[.int .i64 (k : Int), .slice p n c] w (NextOk w k l) := by
  obtain ⟨i0, hi, hz0, hz1, hz2⟩ := info_parts infoI
  have hck := check_ok (k : Int) p n c l w hn h hc
  obtain ⟨k', hk', h1, h4, hl, ho⟩ := chkW_none hc
  obtain rfl : k = k' := by omega
  have H := Lib.hid (And.intro h (And.intro ho (And.intro hn hlast)))
  have hn4 : n ≤ 4096 := by omega
  have HCK := Lib.hid hck
  clear h hc hl ho hck hlast hk' hn
  go_enter Tryd.func33, Tryd.ntmps33
  go_wp2_with fail
  refine HCK.out.mono ?_
  rintro e w1 ⟨rfl, hb1⟩
  have hcl := cloneI_any p c l w1 (H.out.1.next hb1) (by have := H.out.2.2.1; omega)
  rw [← H.out.2.2.1] at hcl
  have HB1 := Lib.hid (And.intro hb1 hcl)
  clear hb1 hcl
  go_wp2_with fail
  refine HB1.out.2.mono ?_
  rintro e w2 ⟨p2, c2, rfl, ho2, hb2⟩
  have hb02 : Below w.heap.size w w2 := HB1.out.1.trans (hb2.mono HB1.out.1.size)
  have ho02 := ho2.base HB1.out.1.size
  have hlen := H.out.2.2.1
  obtain ⟨L, hL⟩ : ∃ L, l.length = L := ⟨_, rfl⟩
  have hLn : L = n := by omega
  rw [hL, hLn]
  have HO := Lib.hid (And.intro hb02 ho02)
  clear hb2 ho2 hb02 ho02 hlen hL hLn
  go_wp2_with fail
  go_loopw [8] (fun v wr => NextRel w k l p2 c2 v wr) (fun v _ => (intOf v + 1).toNat)
  case atStart =>
    have hlen := H.out.2.2.1
    exact ⟨l.length, Nat.le_refl _, by rw [hlen], by simp, by simp; exact HO.out.2, HO.out.1⟩
  case round =>
    obtain ⟨j, hj, rfl, hw2, ho, hb⟩ := hrel
    have hlen := H.out.2.2.1
    have hleng : (l.take j ++ List.replicate (l.length - j) (0 : Int)).length = n := by simp; omega
    rcases Nat.eq_zero_or_pos j with rfl | hj0
    · -- all were k - 1
      have hl4 : ((n : Int) == 4096) = false := by
        rw [beq_eq_false_iff_ne]
        intro e
        rcases H.out.2.2.2 with h1 | h1
        · omega
        · apply h1
          rw [List.take_zero, List.nil_append, Nat.sub_zero] at hw2
          exact hw2
      have hx : l.take 0 ++ List.replicate (l.length - 0) (0 : Int) = List.replicate n 0 := by rw [List.take_zero, List.nil_append, Nat.sub_zero, hlen]
      rw [hx] at ho
      have hown : wr.ownsRow w.heap.size 3 1 (.slice p2 n c2) n (cI (List.replicate n 0)) := by
        unfold IntO at ho
        rwa [List.length_replicate] at ho
      have hwB : w.heap.size ≤ wr.heap.size := hb.size
      have HX := Lib.hid (And.intro hw2 hb)
      clear ho hx hw2 hb hlen hleng
      go_wp2_with (at_builtin; refine wpList_append_own _ rfl _ _ 40 rfl w.heap.size 3 i0 (.int .i64 0) 1 8 Tryd.underlying40 hi hz0 hz1 hz2 rfl (by decide) _ n (cI (List.replicate n 0)) rfl (hown.alloc _) ⟨wr.heap.size, 0, none⟩ 1 1 [.int .i64 0] rfl rfl (cell_one_new _ _ _) ?c2 ?c3 ?c4 ?c5 ?_)
      case c2 => intro u hu; simp at hu; subst hu; rfl
      case c3 => unfold maxLen; omega
      case c4 => omega
      case c5 => simp; omega
      intro v' w3 hown' hgrow _
      have hxs : cI (List.replicate n 0) ++ [Value.int .i64 0] = cI (List.replicate (n + 1) 0) := by
        rw [List.replicate_succ', cI_app]; rfl
      rw [hxs] at hown'
      have hown2 : w3.ownsRow w.heap.size 3 1 v' (List.replicate (n + 1) (0 : Int)).length (cI (List.replicate (n + 1) 0)) := by rw [List.length_replicate]; exact hown'
      obtain ⟨p3, c3, rfl, ho3⟩ := IntO.slice_own hown2
      have hb3 : Below w.heap.size w w3 := (HX.out.2.alloc hwB _).grown hgrow (by simp; omega) (fun j hj => (hown.lt j hj).1)
      have HF := Lib.hid (And.intro ho3 hb3)
      clear hown hown' hgrow ho3 hb3 hxs hown2
      go_wp2_with fail
      go_ret2
      refine ⟨List.replicate (n + 1) 0, Or.inr ⟨?_, by rw [H.out.2.2.1]⟩, p3, c3, rfl, HF.out.1, HF.out.2⟩
      have e := HX.out.1
      rwa [List.take_zero, List.nil_append, Nat.sub_zero] at e
    · obtain ⟨i, rfl⟩ : ∃ i, j = i + 1 := ⟨j - 1, by omega⟩
      have e1 : (((i + 1 : Nat) : Int) - 1) = (i : Int) := by omega
      rw [e1]
      obtain ⟨y, hy⟩ := getI (l := l) (k := i) (by omega)
      have hyo := H.out.2.1 y (List.mem_of_getElem? hy)
      have hyx : (l.take (i + 1) ++ List.replicate (l.length - (i + 1)) (0 : Int))[i]? = some y := by
        rw [List.getElem?_append_left (by rw [List.length_take]; omega), List.getElem?_take, if_pos (by omega), hy]
      have hset := fun v => set_mid (v := v) hy (l.length - (i + 1)) 0
      have hrep := take_rep hy hw2
      obtain ⟨xs, hxs⟩ : ∃ xs, l.take (i + 1) ++ List.replicate (l.length - (i + 1)) (0 : Int) = xs := ⟨_, rfl⟩
      rw [hxs] at ho hleng hyx
      simp only [hxs] at hset
      have hown : wr.ownsRow w.heap.size 3 1 (.slice p2 n c2) n (cI xs) := by
        unfold IntO at ho
        rwa [hleng] at ho
      rcases own_shape hown with ⟨hv, h0, _⟩ | ⟨g, cap, hv, hg, hglt, hcc, hm, hcel, _⟩
      · omega
      obtain ⟨rfl, rfl⟩ : p2 = some ⟨g, 0, none⟩ ∧ c2 = cap := by simpa using hv
      have hin : i < n := by omega
      have hcx : wr.cell? ⟨g, i, none⟩ = some (.int .i64 y) := (hcel i hin).trans (cI_get hyx)
      have hfx : wr.frozen? ⟨g, i, none⟩ = false := hown.frozenAt i
      have hnc2 : n ≤ c2 := hcc
      have hc2m : c2 ≤ 9223372036854775807 := by unfold maxLen at hm; omega
      by_cases hyk : y < (k : Int) - 1
      · obtain ⟨s1, t1⟩ := hown.stored i (.int .i64 (y + 1))
        rw [← cI_set, hset] at s1
        have hb1 : Below w.heap.size w (wr.setCell ⟨g, i, none⟩ (.int .i64 (y + 1))) := hb.setCell (p := ⟨g, i, none⟩) hg _
        have HS := Lib.hid (And.intro s1 (And.intro hb1 (And.intro hy (And.intro hrep hyk))))
        have hyw : y + 1 ≤ 4 := by omega
        have hy0 : 0 ≤ y := hyo.1
        clear ho hown hcel hv hset hxs s1 t1 hb1 hb hw2 hy hrep hyx hleng hlen hyo e1 hcc hm
        go_wp2_with fail
        go_ret2
        have e3 : l.length - (i + 1) = l.length - 1 - i := by omega
        refine ⟨l.take i ++ (y + 1) :: List.replicate (l.length - (i + 1)) 0, Or.inl ⟨i, y, HS.out.2.2.1, HS.out.2.2.2.2, by rw [← e3]; exact HS.out.2.2.2.1, by rw [e3]⟩, some ⟨g, 0, none⟩, c2, ?_, ?_, HS.out.2.1⟩
        · have : (l.take i ++ (y + 1) :: List.replicate (l.length - (i + 1)) 0).length = n := by simp; have := H.out.2.2.1; omega
          rw [this]; rfl
        · unfold IntO
          have : (l.take i ++ (y + 1) :: List.replicate (l.length - (i + 1)) 0).length = n := by simp; have := H.out.2.2.1; omega
          rw [this]; exact HS.out.1
      · obtain rfl : y = (k : Int) - 1 := by omega
        obtain ⟨s1, t1⟩ := hown.stored i (.int .i64 0)
        rw [← cI_set, hset] at s1
        have hb1 : Below w.heap.size w (wr.setCell ⟨g, i, none⟩ (.int .i64 0)) := hb.setCell (p := ⟨g, i, none⟩) hg _
        have HS := Lib.hid (And.intro s1 (And.intro hb1 (And.intro hy hrep)))
        clear ho hown hcel hv hset hxs s1 t1 hb1 hb hw2 hy hrep hyx hleng hlen hyo e1 hcc hm hyk
        go_wp2_with fail
        go_roundw
        case rel =>
          have e3 : l.length - i = l.length - (i + 1) + 1 := by have := H.out.2.2.1; omega
          refine ⟨i, by have := H.out.2.2.1; omega, rfl, by rw [e3, List.replicate_succ]; exact HS.out.2.2.2, ?_, HS.out.2.1⟩
          rw [e3, List.replicate_succ]
          unfold IntO
          have : (l.take i ++ 0 :: List.replicate (l.length - (i + 1)) (0 : Int)).length = n := by simp; have := H.out.2.2.1; omega
          rw [this]; exact HS.out.1
        case measure => simp [intOf]
end Go.Proofs.YthhighljfjeooaaDoor
