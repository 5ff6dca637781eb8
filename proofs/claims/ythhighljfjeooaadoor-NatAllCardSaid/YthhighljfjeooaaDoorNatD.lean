/- Package nat by its contracts, fourth part: Mul. -/
import Derived.Test.YthhighljfjeooaaDoorNatC
import Derived.Laws.MakeOwn
namespace Go.Proofs.YthhighljfjeooaaDoor
open Go.RowKit NatM

theorem madeCells_list (v : Value) (n : Nat) : (madeCells #[v] n).toList = List.replicate n v := by
  unfold madeCells
  rw [Array.toList_map, Array.toList_range]
  apply List.ext_getElem
  · simp
  · intro i h1 h2
    simp [Nat.mod_one]
theorem make32 (n : Nat) (hn : n ≤ 1099511627776) (w : World) :
    (Instr.makeSlice 25 (.int .i64 (n : Int)) (.int .i64 (n : Int))).run Tryd.prog w = .ok (.slice (some ⟨w.heap.size, 0, none⟩) n n) (w.alloc (.cells (madeCells #[.int .u32 0] n) 27)) := by
  obtain ⟨i0, hi, hz0, hz1, hz2⟩ := info_parts info32
  have h := run_make (P := Tryd.prog) w 25 27 i0 (.int .u32 0) Tryd.underlying25 hi hz0 .i64 .i64 n n (by omega) (by omega) (by rw [hz2]; omega) (by omega)
  rw [hz1] at h
  simpa [Value.cells] using h
theorem NatO.made (w : World) (n : Nat) (hn : n ≤ 1099511627776) : NatO w.heap.size (w.alloc (.cells (madeCells #[.int .u32 0] n) 27)) (some ⟨w.heap.size, 0, none⟩) n (List.replicate n 0) := by
  refine ⟨⟨by simp [cells32], Or.inr ⟨w.heap.size, n, madeCells #[.int .u32 0] n, by rw [List.length_replicate], Nat.le_refl _, heap_newN _ _, by rw [List.length_replicate]; exact Nat.le_refl _, by unfold maxLen; omega, by rw [size_madeCells, Nat.mul_one], ?_⟩⟩, okB_replicate (by omega) _⟩
  rw [madeCells_list, List.length_replicate, Nat.mul_one, List.take_of_length_le (by simp)]
  simp [cells32]

def MI (a b : List Nat) (i j x c : Nat) (P : List Nat) : Prop := MInv 4294967296 a b i j x c P
/-- What the outer loop of Mul hands on. -/
def MulRel (w : World) (a b : List Nat) (g : Nat) (v : Value) (wr : World) : Prop :=
  ∃ (i : Nat) (P : List Nat), i ≤ a.length ∧ v = .int .i64 (i : Int) ∧ MI a b i 0 0 0 P ∧ NatO w.heap.size wr (some ⟨g, 0, none⟩) P.length P ∧ Below w.heap.size w wr
/-- What the inner loop of Mul hands on. -/
def MulRel2 (w : World) (a b : List Nat) (g i x : Nat) (v8 v30 : Value) (wr : World) : Prop :=
  ∃ (j c : Nat) (P : List Nat), j ≤ b.length ∧ v8 = .int .u64 (c : Int) ∧ v30 = .int .i64 (j : Int) ∧ MI a b i j x c P ∧ NatO w.heap.size wr (some ⟨g, 0, none⟩) P.length P ∧ Below w.heap.size w wr

set_option maxRecDepth 100000 in
set_option maxHeartbeats 4000000 in
theorem mul_any (p q : Option Addr) (c d : Nat) (l m : List Nat) (w : World) (h : NatV w.heap.size w p c l) (k : NatV w.heap.size w q d m) (hl : l.length ≤ 100000) (hm : m.length ≤ 100000) :
    Calls Tryd.prog 50 #[.slice p l.length c, .slice q m.length d] w (NatPost w (V32 l * V32 m)) := by
  have H := Lib.hid (And.intro h k)
  have HT := Lib.hid (And.intro h.trim k.trim)
  have hle := HT.out.1.le
  have hdle := HT.out.2.le
  have hal : (D32 (V32 l)).length ≤ 100000 := Nat.le_trans (D32_le h.ok) hl
  have hbl : (D32 (V32 m)).length ≤ 100000 := Nat.le_trans (D32_le k.ok) hm
  have hva : V32 (D32 (V32 l)) = V32 l := V32_D32 _
  have hvb : V32 (D32 (V32 m)) = V32 m := V32_D32 _
  clear h k
  go_enter Tryd.func50, Tryd.ntmps50
  go_wp2_with fail
  refine (trim_any p c l _ H.out.1).mono ?_
  rintro e w' ⟨rfl, rfl⟩
  go_wp2_with fail
  refine (trim_any q d m _ H.out.2).mono ?_
  rintro e w' ⟨rfl, rfl⟩
  obtain ⟨a, ha⟩ : ∃ a, D32 (V32 l) = a := ⟨_, rfl⟩
  obtain ⟨b, hb⟩ : ∃ b, D32 (V32 m) = b := ⟨_, rfl⟩
  rw [ha] at HT hle hva hal ⊢
  rw [hb] at HT hdle hvb hbl ⊢
  have HV := Lib.hid (And.intro hva hvb)
  clear ha hb hva hvb
  obtain ⟨n, hn⟩ : ∃ n, n = a.length + b.length := ⟨_, rfl⟩
  have hmk := make32 n (by omega)
  have hn2 : (a.length : Int) + (b.length : Int) = (n : Int) := by omega
  have HN := Lib.hid hn
  have hnb : n ≤ 200000 := by omega
  clear hn
  go_wp2_with fail
  have HN2 := Lib.hid hn2
  clear hn2 hmk
  go_loopw [23] (fun v wr => MulRel w a b w.heap.size v wr) (fun i _ => a.length - (intOf i).toNat)
  case atStart =>
    have h0 := NatO.made w n (by omega)
    refine ⟨0, List.replicate n 0, Nat.zero_le _, rfl, ?_, by rw [List.length_replicate]; exact h0, (Below.refl _ _).alloc (Nat.le_refl _) _⟩
    rw [HN.out]
    exact MInv.start (by omega) a b 0
  case round =>
    obtain ⟨i, P, hi, rfl, hM, ho, hb⟩ := hrel
    have hPl : P.length = n := by rw [HN.out]; exact hM.len
    have HP := Lib.hid (And.intro hPl (And.intro hM (And.intro ho hb)))
    obtain ⟨wo, rfl⟩ : ∃ wo : World, wo = wr := ⟨_, rfl⟩
    by_cases hlt : i < a.length
    · obtain ⟨x, hx⟩ := some_get hlt
      obtain ⟨ba, off, rfl, hba, hca⟩ := (HT.out.1.below hb).cell (List.length_pos_iff.1 (by omega))
      have hcx := hca i x hx
      have hxl : x < 4294967296 := ok_get HT.out.1.ok hx
      have HX := Lib.hid hx
      clear hca hx hPl hM ho hb
      go_wp2_with fail
      go_loopw [8, 30] (fun v8 v30 wr => MulRel2 w a b w.heap.size i x v8 v30 wr) (fun _ j _ => b.length - (intOf j).toNat)
      case atStart => exact ⟨0, 0, P, Nat.zero_le _, rfl, rfl, ⟨HP.out.2.1.ok, HP.out.2.1.len, by omega, HP.out.2.1.zero, by have := HP.out.2.1.val; simpa [valB] using this⟩, HP.out.2.2.1, HP.out.2.2.2⟩
      case round =>
        obtain ⟨j, c, P, hj, rfl, rfl, hM, ho, hb⟩ := hrel
        have hPl : P.length = n := by rw [HN.out]; exact hM.len
        have hcl : c < 4294967296 := hM.car
        by_cases hjl : j < b.length
        · obtain ⟨y, hy⟩ := some_get hjl
          obtain ⟨bb, off', rfl, hbb, hcb⟩ := (HT.out.2.below hb).cell (List.length_pos_iff.1 (by omega))
          have hcy := hcb j y hy
          have hyl : y < 4294967296 := ok_get HT.out.2.ok hy
          have hn0 : n = a.length + b.length := HN.out
          obtain ⟨g, hg, hgb, hgl, hcells, hfrz⟩ := ho.shape (by omega)
          obtain rfl : w.heap.size = g := by simpa using hg
          obtain ⟨z, hz⟩ := some_get (l := P) (k := i + j) (by omega)
          have hcz := hcells (i + j) z hz
          have hfz := hfrz (i + j)
          have hzl : z < 4294967296 := ok_get ho.ok hz
          have hst := MInv.step hM hxl HT.out.2.ok hjl hy hz
          have hxy : (x : Int) * (y : Int) ≤ 18446744065119617025 := by
            have h1 : x * y ≤ 4294967295 * 4294967295 := Nat.mul_le_mul (by omega) (by omega)
            have h2 : ((x * y : Nat) : Int) ≤ 18446744065119617025 := by omega
            rwa [Int.natCast_mul] at h2
          have hxy0 : 0 ≤ (x : Int) * (y : Int) := Int.mul_nonneg (by omega) (by omega)
          have hijn : i + j < n := by omega
          have hos := NatO.store ho (i + j) ((c + (x * y + z)) % 4294967296) (Nat.mod_lt _ (by omega))
          have HS := Lib.hid (And.intro hst (And.intro hos (And.intro hb hPl)))
          have HPL := Lib.hid hPl
          clear hst hos hb hPl hn0 hcb hcells hfrz hy hz hM ho hg
          go_wp2_with fail
          go_roundw
          case rel =>
            refine ⟨j + 1, (c + (x * y + z)) / 4294967296, P.set (i + j) ((c + (x * y + z)) % 4294967296), by omega, ?_, by go_num, HS.out.1, ?_, HS.out.2.2.1.setCell (Nat.le_refl _) _⟩
            · rfl
            · rw [List.length_set]; exact HS.out.2.1
          case measure => simp [intOf]; omega
        · obtain rfl : j = b.length := by omega
          have hn0 : n = a.length + b.length := HN.out
          obtain ⟨g, hg, hgb, hgl, hcells, hfrz⟩ := ho.shape (by omega)
          obtain rfl : w.heap.size = g := by simpa using hg
          obtain ⟨z, hz⟩ := some_get (l := P) (k := i + b.length) (by omega)
          have hcz := hcells (i + b.length) z hz
          have hfz := hfrz (i + b.length)
          have hst := MInv.row hM hlt HX.out 0
          have hos := NatO.store ho (i + b.length) c hcl
          have HS := Lib.hid (And.intro hst (And.intro hos hb))
          have hijn : i + b.length < n := by omega
          clear hst hos hb hPl hn0 hcells hfrz hz hM ho hg
          go_wp2_with fail
          go_roundw
          case rel =>
            refine ⟨i + 1, P.set (i + b.length) c, by omega, by go_num, HS.out.1, ?_, HS.out.2.2.setCell (Nat.le_refl _) _⟩
            rw [List.length_set]; exact HS.out.2.1
          case measure => simp [intOf]; omega
    · obtain rfl : i = a.length := by omega
      have hv : V32 P = V32 l * V32 m := by
        rw [← HV.out.1, ← HV.out.2]
        exact HP.out.2.1.done rfl
      have hot := ho.trim
      have ht := trim_any _ _ P wo ho.toV
      rw [hPl] at ht hot
      rw [hv] at ht hot
      have HQ := Lib.hid (And.intro hot hb)
      clear hot hPl hM ho hb hv
      go_wp2_with fail
      refine ht.mono ?_
      clear ht
      rintro e w' ⟨rfl, rfl⟩
      go_wp2_with fail
      go_ret
      exact ⟨_, _, rfl, HQ.out.1, HQ.out.2⟩
end Go.Proofs.YthhighljfjeooaaDoor
