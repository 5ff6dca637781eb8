/- The document's own package of rules by its contracts: Digits. -/
import Derived.Test.YthafjbegkifekaaDoorBSumM
import Derived.Test.YthafjbegkifekaaDoorB3
namespace Go.Proofs.YthafjbegkifekaaDoor
open Go.RowKit Go.Extern.Stop Go.Stop Go.Extern WordM RuleM NatM

def DigRel (w : World) (k n x : Nat) (g : Nat) (v2 v8 : Value) (wr : World) : Prop :=
  ∃ (j X : Nat) (suf : List Int), j ≤ n ∧ v8 = .int .i64 ((j : Int) - 1) ∧ v2 = .int .i64 (X : Int) ∧ X ≤ 16384 ∧ digW k n x = digW k j X ++ suf ∧ IntO w.heap.size wr (some ⟨g, 0, none⟩) n (List.replicate j 0 ++ suf) ∧ Below w.heap.size w wr
set_option maxRecDepth 100000 in
set_option maxHeartbeats 4000000 in
theorem digits_ref (k n x : Nat) (w : World) (h1 : 1 ≤ k) (h4 : k ≤ 4) (h7 : n ≤ 7) (hx : x ≤ 16384) :
    Calls Tryd.prog 35 #[.int .i64 (k : Int), .int .i64 (n : Int), .int .i64 (x : Int)] w (IntPost w (digW k n x)) := by
  have hk0 : ¬ (k : Int) = 0 := by omega
  have hmk := makeI n (by omega) w
  have hn1 : IntKind.i64.wrap ((n : Int) - 1) = (n : Int) - 1 := by rw [IntWalk.i64_in _ (by omega)]
  go_enter Tryd.func35, Tryd.ntmps35
  go_wp2_with fail
  have ho0 := IntO.made w n (by omega)
  have hb0 : Below w.heap.size w (w.alloc (.cells (madeCells #[.int .i64 0] n) 3)) := (Below.refl _ _).alloc (Nat.le_refl _) _
  have HO := Lib.hid (And.intro ho0 hb0)
  clear hmk ho0 hb0
  go_loopw [2, 8] (fun v2 v8 wr => DigRel w k n x w.heap.size v2 v8 wr) (fun _ v _ => (intOf v + 1).toNat)
  case atStart => exact ⟨n, x, [], Nat.le_refl _, rfl, rfl, hx, by simp, by simpa using HO.out.1, HO.out.2⟩
  case round =>
    obtain ⟨j, X, suf, hj, rfl, rfl, hX, hd, ho, hb⟩ := hrel
    have hsl : suf.length = n - j := by
      have := congrArg List.length hd
      rw [digW_length, List.length_append, digW_length] at this
      omega
    rcases Nat.eq_zero_or_pos j with rfl | hj0
    · have he : List.replicate 0 (0 : Int) ++ suf = digW k n x := by rw [hd]; rfl
      rw [he] at ho
      have hl := digW_length k n x
      have HF := Lib.hid (And.intro ho (And.intro hb hl))
      clear ho hb he hd hl hsl
      go_wp2_with fail
      go_ret
      exact ⟨_, _, by rw [HF.out.2.2]; rfl, HF.out.1, HF.out.2.1⟩
    · obtain ⟨i, rfl⟩ : ∃ i, j = i + 1 := ⟨j - 1, by omega⟩
      have e1 : (((i + 1 : Nat) : Int) - 1) = (i : Int) := by omega
      rw [e1]
      obtain ⟨D, hD⟩ : ∃ D, X % k = D := ⟨_, rfl⟩
      obtain ⟨Q, hQ⟩ : ∃ Q, X / k = Q := ⟨_, rfl⟩
      have hQX : Q ≤ X := by rw [← hQ]; exact Nat.div_le_self _ _
      have hDk : D < k := by rw [← hD]; exact Nat.mod_lt _ (by omega)
      have hd2 : digW k n x = digW k i Q ++ (((D : Nat) : Int) :: suf) := by
        rw [hd]
        show digW k i (X / k) ++ [((X % k : Nat) : Int)] ++ suf = _
        rw [hD, hQ, List.append_assoc]; rfl
      have tD : (X : Int).tmod (k : Int) = (D : Int) := by rw [Int.tmod_eq_emod_of_nonneg (by omega), ← hD]; rfl
      have tQ : (X : Int).tdiv (k : Int) = (Q : Int) := by rw [Int.tdiv_eq_ediv_of_nonneg (by omega), ← hQ]; rfl
      have tQ' : IntKind.i64.wrap (Q : Int) = (Q : Int) := by rw [IntWalk.i64_in _ (by omega)]
      have hset : ∀ v : Int, (List.replicate (i + 1) (0 : Int) ++ suf).set i v = List.replicate i 0 ++ v :: suf := fun v => by
        rw [List.replicate_succ', List.append_assoc, List.set_append_right _ _ (by rw [List.length_replicate]; omega), List.length_replicate, Nat.sub_self]; rfl
      have hlen : (List.replicate (i + 1) (0 : Int) ++ suf).length = n := by rw [List.length_append, List.length_replicate, hsl]; omega
      obtain ⟨xs, hxs⟩ : ∃ xs, List.replicate (i + 1) (0 : Int) ++ suf = xs := ⟨_, rfl⟩
      rw [hxs] at ho hlen
      simp only [hxs] at hset
      have hown : wr.ownsRow w.heap.size 3 1 (.slice (some ⟨w.heap.size, 0, none⟩) n n) n (cI xs) := by
        unfold IntO at ho
        rwa [hlen] at ho
      obtain ⟨y0, hy0⟩ := getI (l := xs) (k := i) (by omega)
      have hcy : wr.cell? ⟨w.heap.size, i, none⟩ = some (.int .i64 y0) := (hown.cellAt i (by omega)).trans (cI_get hy0)
      have hfy : wr.frozen? ⟨w.heap.size, i, none⟩ = false := hown.frozenAt i
      obtain ⟨s1, _⟩ := hown.stored i (.int .i64 (D : Int))
      rw [← cI_set, hset] at s1
      have hb1 : Below w.heap.size w (wr.setCell ⟨w.heap.size, i, none⟩ (.int .i64 (D : Int))) := hb.setCell (p := ⟨w.heap.size, i, none⟩) (Nat.le_refl _) _
      have hlen2 : (List.replicate i (0 : Int) ++ (D : Int) :: suf).length = n := by simp; omega
      have hin : i < n := by omega
      have wi1 : IntKind.i64.wrap ((i : Int) - 1) = (i : Int) - 1 := by rw [IntWalk.i64_in _ (by omega)]
      have HS := Lib.hid (And.intro hd2 (And.intro s1 (And.intro hb1 hlen2)))
      clear hd2 s1 hb1 hlen2 hset hxs hown hy0 ho hb hd hsl hD hQ hlen e1
      go_wp2_with fail
      go_roundw
      case rel => exact ⟨i, Q, (D : Int) :: suf, by omega, rfl, rfl, by omega, HS.out.1, by unfold IntO; rw [HS.out.2.2.2]; exact HS.out.2.1, HS.out.2.2.1⟩
      case measure => simp [intOf]
end Go.Proofs.YthafjbegkifekaaDoor
