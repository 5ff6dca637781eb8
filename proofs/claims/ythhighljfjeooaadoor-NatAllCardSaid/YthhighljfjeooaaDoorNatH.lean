/- The statements' own tests: awake, normal, long. -/
import Derived.Test.YthhighljfjeooaaDoorNatG
namespace Go.Proofs.YthhighljfjeooaaDoor
open Go.RowKit NatM

/-- a slice literal of limbs, just laid -/
theorem NatV.laid {w : World} (l : List Nat) (cs : Array Value) (t : TypeId) (hc : cs.toList = cells32 l) (hl : l.length ≤ 1000) (ok : ok32 l) :
    NatV (w.alloc (.cells cs t)).heap.size (w.alloc (.cells cs t)) (some ⟨w.heap.size, 0, none⟩) l.length l := by
  refine ⟨ok, Nat.le_refl _, by unfold maxLen; omega, (fun h => by cases h), fun _ => ⟨w.heap.size, 0, rfl, by simp, fun j x hx => ?_⟩⟩
  rw [Nat.zero_add, cell_alloc_row, ← Array.getElem?_toList, hc]
  exact cells32_get hx
theorem ok_of {l : List Nat} (h : l.all (fun x => decide (x < 4294967296)) = true) : ok32 l := fun x hx => by simpa using List.all_eq_true.1 h x hx
theorem nrm_of {l : List Nat} (h : (l.getLast? == some 0) = false) : nrm l := fun x hx e => by subst e; rw [hx] at h; simp at h
theorem D32_of {l : List Nat} {n : Nat} (ho : l.all (fun x => decide (x < 4294967296)) = true) (hn : (l.getLast? == some 0) = false) (hv : V32 l = n) : D32 n = l := digs_unique (by omega) (ok_of ho) (nrm_of hn) hv
theorem D10_of {l : List Nat} {n : Nat} (ho : l.all (fun x => decide (x < 10)) = true) (hn : (l.getLast? == some 0) = false) (hv : valB 10 l = n) : digs 10 n = l := digs_unique (by omega) (fun x hx => by simpa using List.all_eq_true.1 ho x hx) (nrm_of hn) hv

theorem nats_eq (p q : Option Addr) (n m c d : Nat) (l : List Nat) (w : World) (hn : n = l.length) (hm : m = l.length) (h : NatV w.heap.size w p c l) (k : NatV w.heap.size w q d l) :
    Calls Tryd.prog 48 #[.slice p n c, .slice q m d] w (Tells (.bool true) w) := by
  subst hn hm
  exact nats_same p q c d l w h k
theorem text_eq (p : Option Addr) (n cap : Nat) (l : List Nat) (w : World) (hn : n = l.length) (h : NatV w.heap.size w p cap l) (hl : l.length ≤ 100000) :
    Calls Tryd.prog 49 #[.slice p n cap] w (Tells (.string (textOf (V32 l))) w) := by
  subst hn
  exact text_any p cap l w h hl
theorem mul_eq (p q : Option Addr) (n k c d : Nat) (l m : List Nat) (w : World) (hn : n = l.length) (hk : k = m.length) (h : NatV w.heap.size w p c l) (h' : NatV w.heap.size w q d m) (hl : l.length ≤ 100000) (hm : m.length ≤ 100000) :
    Calls Tryd.prog 50 #[.slice p n c, .slice q k d] w (NatPost w (V32 l * V32 m)) := by
  subst hn hk
  exact mul_any p q c d l m w h h' hl hm
def bigText : ByteArray := { data := #[52, 50, 57, 52, 57, 54, 55, 50, 57, 54] }
theorem D32_big : D32 4294967296 = [0, 1] := D32_of (by decide) (by decide) (by decide)
theorem D32_15 : D32 15 = [15] := D32_of (by decide) (by decide) (by decide)
theorem text_big : textOf 4294967296 = bigText := by
  unfold textOf decL
  rw [if_neg (by decide), D10_of (l := [6, 9, 2, 7, 6, 9, 4, 9, 2, 4]) (by decide) (by decide) (by decide)]
  rfl
theorem parse_big_none : parseBad (bsOf bigText) = none := by decide +kernel
theorem list_big : (bigText.toList == [52, 50, 57, 52, 57, 54, 55, 50, 57, 54]) = true := by decide +kernel
theorem num_big : numOf (bsOf bigText) = 4294967296 := by decide +kernel

set_option maxRecDepth 100000 in
set_option maxHeartbeats 1000000 in
theorem awake_any (w : World) : Calls Tryd.prog 10 #[] w (Tells (.bool true) w) := by
  go_enter Tryd.func10, Tryd.ntmps10
  go_wp2_with fail
  refine (parse_num bigText _ parse_big_none).mono ?_
  rintro e w1 ⟨p1, c1, rfl, ho1, hb1⟩
  rw [num_big, D32_big] at ho1 ⊢
  have H1 := Lib.hid (And.intro ho1 hb1)
  clear ho1 hb1
  go_wp2_with fail
  have hA : Below w.heap.size w (w1.alloc (.cells #[.int .u32 0, .int .u32 1] 27)) := H1.out.2.alloc H1.out.2.size _
  refine (nats_eq _ _ _ _ _ _ [0, 1] _ rfl rfl (H1.out.1.toV.next ((Below.refl _ _).alloc (Nat.le_refl _) _)) (NatV.laid [0, 1] _ _ rfl (by decide) (ok_of (by decide)))).mono ?_
  rintro e w2 ⟨rfl, hb2⟩
  have hB2 := hA.trans (hb2.mono hA.size)
  have H2 := Lib.hid hB2
  clear hA hb2 hB2 H1
  go_wp2_with fail
  refine (text_eq _ _ _ [0, 1] _ rfl (NatV.laid [0, 1] _ _ rfl (by decide) (ok_of (by decide))) (by decide)).mono ?_
  rintro e w3 ⟨rfl, hb3⟩
  have hA : Below w.heap.size w (w2.alloc (.cells #[.int .u32 0, .int .u32 1] 27)) := H2.out.alloc H2.out.size _
  have H3 := Lib.hid (hA.trans (hb3.mono hA.size))
  rw [show V32 [0, 1] = 4294967296 by decide, text_big]
  clear hA hb3 H2
  have hlb := list_big
  go_wp2_with fail
  have hA1 : Below w3.heap.size w3 ((w3.alloc (.cells #[.int .u32 3] 27)).alloc (.cells #[.int .u32 5] 27)) := ((Below.refl _ _).alloc (Nat.le_refl _) _).alloc (by simp) _
  have hv3 : NatV ((w3.alloc (.cells #[.int .u32 3] 27)).alloc (.cells #[.int .u32 5] 27)).heap.size ((w3.alloc (.cells #[.int .u32 3] 27)).alloc (.cells #[.int .u32 5] 27)) (some ⟨w3.heap.size, 0, none⟩) 1 [3] :=
    (NatV.laid (w := w3) [3] #[.int .u32 3] 27 rfl (by decide) (ok_of (by decide))).next ((Below.refl _ _).alloc (Nat.le_refl _) _)
  have hv5 : NatV ((w3.alloc (.cells #[.int .u32 3] 27)).alloc (.cells #[.int .u32 5] 27)).heap.size ((w3.alloc (.cells #[.int .u32 3] 27)).alloc (.cells #[.int .u32 5] 27)) (some ⟨w3.heap.size + 1, 0, none⟩) 1 [5] := by
    have h := NatV.laid (w := w3.alloc (.cells #[.int .u32 3] 27)) [5] #[.int .u32 5] 27 rfl (by decide) (ok_of (by decide))
    rwa [show (w3.alloc (.cells #[.int .u32 3] 27)).heap.size = w3.heap.size + 1 by simp] at h
  refine (mul_eq _ _ 1 1 1 1 [3] [5] _ rfl rfl hv3 hv5 (by decide) (by decide)).mono ?_
  clear hv3 hv5
  rintro e w4 ⟨p4, c4, rfl, ho4, hb4⟩
  rw [show V32 [3] * V32 [5] = 15 by decide, D32_15] at ho4 ⊢
  have hB4 : Below w.heap.size w w4 := H3.out.trans ((hA1.trans (hb4.mono hA1.size)).mono H3.out.size)
  have H4 := Lib.hid (And.intro ho4 hB4)
  clear hA1 ho4 hb4 hB4 H3
  go_wp2_with fail
  refine (nats_eq _ _ _ _ _ _ [15] _ rfl rfl (H4.out.1.toV.next ((Below.refl _ _).alloc (Nat.le_refl _) _)) (NatV.laid [15] _ _ rfl (by decide) (ok_of (by decide)))).mono ?_
  rintro e w5 ⟨rfl, hb5⟩
  have hA : Below w.heap.size w (w4.alloc (.cells #[.int .u32 15] 27)) := H4.out.2.alloc H4.out.2.size _
  have H5 := Lib.hid (hA.trans (hb5.mono hA.size))
  clear hA hb5 H4
  go_wp2_with fail
  go_ret
  exact ⟨rfl, H5.out⟩

/-- long: is one of them longer than 400 limbs? -/
def longB (L : List Nt) : Bool := L.any fun x => decide (400 < x.2.2.length)
set_option maxRecDepth 100000 in
set_option maxHeartbeats 1000000 in
theorem long_any (q : Option Addr) (n c : Nat) (L : List Nt) (w : World) (hn : n = L.length) (h : NatsV w.heap.size w q c L) :
    Calls Tryd.prog 11 #[.slice q n c] w (Tells (.bool (longB L)) w) := by
  subst hn
  have hle := h.le
  have hcap := h.cap
  unfold maxLen at hcap
  have H := Lib.hid h
  clear h
  go_enter Tryd.func11, Tryd.ntmps11
  go_wp2_with fail
  go_loop [3] (fun v => ∃ k : Nat, k ≤ L.length ∧ v = .int .i64 (k : Int) ∧ Hid (longB (L.take k) = false)) (fun v => L.length - (intOf v).toNat)
  case atStart => exact ⟨0, Nat.zero_le _, rfl, rfl⟩
  case round =>
    obtain ⟨k, hk, rfl, hf⟩ := hrel
    by_cases hlt : k < L.length
    · obtain ⟨x, hx⟩ : ∃ x, L[k]? = some x := ⟨_, List.getElem?_eq_getElem hlt⟩
      obtain ⟨bl, off, rfl, hbl, hcl⟩ := H.out.cell (by rintro rfl; simp at hlt)
      have hcx := hcl k x hx
      have hxv := H.out.each x (List.mem_of_getElem? hx)
      have hxle := hxv.le
      have hxcap := hxv.cap
      unfold maxLen at hxcap
      have hst : longB (L.take (k + 1)) = (longB (L.take k) || decide (400 < x.2.2.length)) := by
        obtain ⟨hk', rfl⟩ := List.getElem?_eq_some_iff.1 hx
        unfold longB
        rw [List.take_succ_eq_append_getElem hk', List.any_append]
        simp
      have htr : decide (400 < x.2.2.length) = true → longB L = true := fun h => by
        unfold longB
        exact List.any_eq_true.2 ⟨x, List.mem_of_getElem? hx, h⟩
      obtain ⟨xa, xc, xl⟩ := x
      replace hcx : w.cell? ⟨bl, off + k, none⟩ = some (.slice xa xl.length xc) := hcx
      replace hst : longB (L.take (k + 1)) = (longB (L.take k) || decide (400 < xl.length)) := hst
      replace htr : decide (400 < xl.length) = true → longB L = true := htr
      replace hxle : xl.length ≤ xc := hxle
      replace hxcap : xc ≤ 2 ^ 63 - 1 := hxcap
      have HS := Lib.hid (And.intro hst htr)
      clear hx hcl hxv hst htr
      by_cases h4 : 400 < xl.length
      · go_wp2_with fail
        go_ret
        exact ⟨by rw [HS.out.2 (by simpa using h4)]; rfl, Below.refl _ _⟩
      · go_wp2_with fail
        go_round
        case rel => exact ⟨k + 1, by omega, by go_num, by show _ = _; rw [HS.out.1, hf.out]; simpa using h4⟩
        case measure => simp [intOf]; omega
    · obtain rfl : k = L.length := by omega
      have he := hf.out
      rw [List.take_length] at he
      have HE := Lib.hid he
      clear he hf
      go_wp2_with fail
      go_ret
      exact ⟨by rw [HE.out]; rfl, Below.refl _ _⟩
end Go.Proofs.YthhighljfjeooaaDoor
