/- NatTexts: its walk: whatever the number and the text, it answers true and old memory stays. -/
import Derived.Test.YtmjaohddmoiodaaDoorNatI
namespace Go.Proofs.YtmjaohddmoiodaaDoor
open Go.RowKit Go.Extern.Stop Go.Stop Go.Extern NatM

theorem bsOf_strOfNums {l : List Nat} (h : ∀ x ∈ l, x < 256) : bsOf (strOfNums (l.map fun (d : Nat) => (d : Int))) = l := by
  unfold bsOf
  rw [strOfNums_data, List.map_map, List.map_map]
  conv => rhs; rw [← List.map_id l]
  apply List.map_congr_left
  intro x hx
  have := h x hx
  simp [UInt8.toNat_ofNat']
  omega
theorem strOfNums_bsOf (s : ByteArray) : strOfNums ((bsOf s).map fun (d : Nat) => (d : Int)) = s := by
  have h : (strOfNums ((bsOf s).map fun (d : Nat) => (d : Int))).data.toList = s.data.toList := by
    rw [strOfNums_data]
    unfold bsOf
    rw [List.map_map, List.map_map]
    conv => rhs; rw [← List.map_id s.data.toList]
    apply List.map_congr_left
    intro x _
    simp
  cases s with
  | mk d =>
    have := congrArg List.toArray h
    simp at this
    exact congrArg ByteArray.mk this
theorem textOf_eq (n : Nat) : textOf n = strOfNums (((decL n).map (48 + ·)).map fun (d : Nat) => (d : Int)) := by
  unfold textOf
  rw [List.map_map]
  rfl
theorem bsOf_text (n : Nat) : bsOf (textOf n) = (decL n).map (48 + ·) := by
  rw [textOf_eq]
  apply bsOf_strOfNums
  intro x hx
  have := isDig_iff.1 ((dec_back n).2.1 x hx)
  omega
theorem parseBad_none {l : List Nat} (h1 : l.length ≤ 1200) (h2 : 0 < l.length) (h3 : ∀ b ∈ l, isDig b = true) (h4 : ¬ (1 < l.length ∧ l[0]? = some 48)) : parseBad l = none := by
  have hf : l.findIdx? (fun b => !isDig b) = none := List.findIdx?_eq_none_iff.2 fun b hb => by rw [h3 b hb]; rfl
  unfold parseBad
  rw [if_neg (by omega), if_neg (by omega), hf]
  simp only
  rw [if_neg h4]
theorem parseBad_is {l : List Nat} (h : parseBad l = none) : l.length ≤ 1200 ∧ 0 < l.length ∧ (∀ b ∈ l, isDig b = true) ∧ ¬ (1 < l.length ∧ l[0]? = some 48) := by
  unfold parseBad at h
  split at h
  · cases h
  · split at h
    · cases h
    · split at h
      · cases h
      · rename_i hj
        split at h
        · cases h
        · rename_i hz
          exact ⟨by omega, by omega, fun b hb => by simpa using findIdx_none hj b hb, hz⟩
theorem decL_len {n k : Nat} (h : n < 4294967296 ^ k) (hk : 0 < k) : (decL n).length ≤ 10 * k := by
  unfold decL
  split
  · simp; omega
  · rw [List.length_reverse]
    apply digs_length_le (by omega)
    have h3 : 4294967296 ^ k ≤ (10 ^ 10) ^ k := Nat.pow_le_pow_left (by decide) k
    rw [← Nat.pow_mul] at h3
    omega
theorem text_none {n k : Nat} (h : n < 4294967296 ^ k) (hk : k ≤ 120) (hk0 : 0 < k) : parseBad (bsOf (textOf n)) = none := by
  rw [bsOf_text]
  obtain ⟨_, h2, h3, h4⟩ := dec_back n
  exact parseBad_none (by rw [List.length_map]; have := decL_len h hk0; omega) h3 h2 h4
theorem text_num (n : Nat) : numOf (bsOf (textOf n)) = n := by rw [bsOf_text]; exact (dec_back n).1
theorem text_of_num {s : ByteArray} (h : parseBad (bsOf s) = none) : textOf (numOf (bsOf s)) = s := by
  obtain ⟨_, h2, h3, h4⟩ := parseBad_is h
  rw [textOf_eq, dec_read h3 h2 h4, strOfNums_bsOf]
theorem text_size (n : Nat) : 0 < (textOf n).size := by
  rw [← bsOf_length, bsOf_text]; exact (dec_back n).2.2.1
theorem list_of_size {s : ByteArray} (h : 0 < s.size) : s.toList ≠ [] := by
  intro e
  have : s.toList.length = s.size := by rw [ByteArray.toList_eq, Array.length_toList]; rfl
  rw [e] at this
  simp at this
  omega
set_option maxRecDepth 100000 in
set_option maxHeartbeats 4000000 in
theorem texts_any (p : Option Addr) (cp : Nat) (a : List Nat) (s : ByteArray) (w : World) (A : Nat → Addr) (hr : Roots w A) (ha : NatV w.heap.size w p cp a) :
    Calls Tryd.prog 6 #[.slice p a.length cp, .string s] w (Tells (.bool true) w) := by
  have hS : St w w [((p, cp, a), a.length)] := ⟨fun x hx => by
    simp only [List.mem_cons, List.not_mem_nil, or_false] at hx
    subst hx
    exact ⟨ha, Nat.le_refl _⟩, Below.refl _ _⟩
  have S0 := Lib.hid hS
  have HR := Lib.hid hr
  have hle := ha.le
  have hcap := ha.cap
  unfold maxLen at hcap
  have HOK := Lib.hid ha.ok
  clear hS ha hr
  go_enter Tryd.func6, Tryd.ntmps6
  go_wp2_with fail
  refine (S0.out.tells (awake_any _)).mono ?_
  rintro e w1 ⟨rfl, hS⟩
  have S1 := Lib.hid hS
  clear hS S0
  by_cases h120 : 120 < a.length
  · have SB := Lib.hid S1.out.below
    clear S1
    go_wp2_with fail
    go_ret
    exact ⟨rfl, SB.out⟩
  · have hlt : V32 a < 4294967296 ^ 120 := len_of HOK.out (by omega)
    have hnone := text_none hlt (by omega) (by omega)
    have htl := list_of_size (text_size (V32 a))
    obtain ⟨tx, htx⟩ : ∃ tx, textOf (V32 a) = tx := ⟨_, rfl⟩
    have hnum := text_num (V32 a)
    rw [htx] at hnone htl hnum
    have HT := Lib.hid (And.intro hnone hnum)
    have htl1 : (tx.toList == []) = false := by rw [beq_eq_false_iff_ne]; exact htl
    have htl2 : tx.toList.isEmpty = false := by cases h : tx.toList with | nil => exact absurd h htl | cons => rfl
    have htx2 : Calls Tryd.prog 31 #[.slice p a.length cp] w1 (StPost w [((p, cp, a), a.length)] (.string tx)) := by
      rw [← htx]
      exact S1.out.tells (text_any p cp a w1 (S1.out.get (i := 0) rfl).1 (by omega))
    clear hlt hnone hnum htx htl
    go_wp2_with fail
    refine htx2.mono ?_
    clear htx2
    rintro e w2 ⟨rfl, hS⟩
    have S2 := Lib.hid hS
    clear hS S1
    go_wp2_with fail
    refine (parse_num tx w2 HT.out.1).mono ?_
    rintro e w3 ⟨p3, c3, rfl, ho, hb⟩
    rw [HT.out.2] at ho ⊢
    have S3 := Lib.hid (S2.out.push hb ho.toV (Nat.le_refl _))
    clear ho hb S2
    go_wp2_with fail
    refine (S3.out.cmp 1 0 rfl rfl rfl rfl 0 (by rw [V32_D32, cmp_eq])).mono ?_
    rintro e w4 ⟨rfl, hS⟩
    have S4 := Lib.hid hS
    clear hS S3
    go_wp2_with fail
    refine (S4.out.normal 0 rfl rfl).mono ?_
    rintro e w5 ⟨rfl, hS⟩
    have S5 := Lib.hid hS
    clear hS S4
    go_wp2_with fail
    cases hbad : parseBad (bsOf s) with
    | none =>
      have HB := Lib.hid hbad
      clear hbad
      refine (parse_num s w5 HB.out).mono ?_
      rintro e w6 ⟨p6, c6, rfl, ho, hb⟩
      have S6 := Lib.hid (S5.out.push hb ho.toV (Nat.le_refl _))
      have hc0 : (D32 (numOf (bsOf s))).length ≤ 100000 := by
        have h1 := numOf_lt (bsOf s) (parseBad_is HB.out).2.2.1
        have h2 := (parseBad_is HB.out).1
        have h3 : (10 : Nat) ^ (bsOf s).length ≤ 4294967296 ^ (bsOf s).length := Nat.pow_le_pow_left (by omega) _
        have h4 : (D32 (numOf (bsOf s))).length ≤ (bsOf s).length := D32_len (by omega)
        omega
      have htx3 : Calls Tryd.prog 31 #[.slice p6 (D32 (numOf (bsOf s))).length c6] w6 (Tells (.string s) w6) := by
        have h := text_any p6 c6 (D32 (numOf (bsOf s))) w6 (S6.out.get (i := 0) rfl).1 hc0
        rwa [V32_D32, text_of_num HB.out] at h
      clear ho hb S5 hc0
      go_wp2_with fail
      refine htx3.mono ?_
      clear htx3
      rintro e w7 ⟨rfl, hb7⟩
      have SB := Lib.hid (S6.out.next hb7).below
      clear hb7 S6
      go_wp2_with fail
      go_ret
      exact ⟨rfl, SB.out⟩
    | some x =>
      obtain ⟨i, k⟩ := x
      have HB := Lib.hid hbad
      clear hbad
      refine (parse_err s w5 A (HR.out.below S5.out.below) i k HB.out).mono ?_
      rintro e w6 ⟨b6, rfl, _, hb⟩
      have SB := Lib.hid (S5.out.next hb).below
      have hv : (Tree.fault b6 natOp (i : Int) (.leaf (A k))).val = .iface 79 (.pointer (some ⟨b6, 0, none⟩)) := rfl
      rw [hv]
      clear hb S5 hv
      go_wp2_with fail
      go_ret
      exact ⟨rfl, SB.out⟩
end Go.Proofs.YtmjaohddmoiodaaDoor
