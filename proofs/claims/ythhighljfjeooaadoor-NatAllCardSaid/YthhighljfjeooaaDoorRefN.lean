/- The document's own package of numbers by its contracts, thirteenth part: Text, its groups of four digits. -/
import Derived.Test.YthhighljfjeooaaDoorRefI
import Derived.Test.YthhighljfjeooaaDoorNatF
import Derived.Test.YthhighljfjeooaaDoorRefB
namespace Go.Proofs.YthhighljfjeooaaDoor
open Go.RowKit NatM

/-! ### groups of four digits, and digits -/
theorem group_step {n R : Nat} {gs : List Nat} (h : digs 10000 n = gs ++ digs 10000 R) (hR : 0 < R) : digs 10000 n = (gs ++ [R % 10000]) ++ digs 10000 (R / 10000) := by
  rw [h, digs_pos (by omega) hR, List.append_assoc]; rfl
theorem group_len {n L : Nat} (h : n < 4294967296 ^ L) : (digs 10000 n).length ≤ 3 * L := by
  refine digs_length_le (by omega) (Nat.lt_of_lt_of_le h ?_)
  rw [Nat.pow_mul]
  exact Nat.pow_le_pow_left (by decide) _
def dk (g k : Nat) : Nat := g / 10 ^ (3 - k) % 10
def vk (m g k : Nat) : Nat := m * 10 ^ k + g / 10 ^ (4 - k)
theorem vk_zero (m : Nat) {g : Nat} (hg : g < 10000) : vk m g 0 = m := by
  show m * 10 ^ 0 + g / 10 ^ 4 = m
  rw [Nat.pow_zero, Nat.mul_one, show 10 ^ 4 = 10000 by decide, Nat.div_eq_of_lt hg]; rfl
theorem vk_four (m g : Nat) : vk m g 4 = g + 10000 * m := by
  show m * 10 ^ 4 + g / 10 ^ 0 = _
  rw [show 10 ^ 4 = 10000 by decide, Nat.pow_zero, Nat.div_one]; omega
theorem vk_step (m : Nat) {g k : Nat} (hg : g < 10000) (hk : k < 4) : vk m g (k + 1) = 10 * vk m g k + dk g k := by
  unfold vk dk
  rcases (show k = 0 ∨ k = 1 ∨ k = 2 ∨ k = 3 by omega) with rfl | rfl | rfl | rfl
  · show m * 10 ^ 1 + g / 10 ^ 3 = 10 * (m * 10 ^ 0 + g / 10 ^ 4) + g / 10 ^ 3 % 10
    simp only [show 10 ^ 1 = 10 by decide, show 10 ^ 3 = 1000 by decide, show 10 ^ 4 = 10000 by decide, Nat.pow_zero]; omega
  · show m * 10 ^ 2 + g / 10 ^ 2 = 10 * (m * 10 ^ 1 + g / 10 ^ 3) + g / 10 ^ 2 % 10
    simp only [show 10 ^ 1 = 10 by decide, show 10 ^ 3 = 1000 by decide, show 10 ^ 2 = 100 by decide]; omega
  · show m * 10 ^ 3 + g / 10 ^ 1 = 10 * (m * 10 ^ 2 + g / 10 ^ 2) + g / 10 ^ 1 % 10
    simp only [show 10 ^ 1 = 10 by decide, show 10 ^ 3 = 1000 by decide, show 10 ^ 2 = 100 by decide]; omega
  · show m * 10 ^ 4 + g / 10 ^ 0 = 10 * (m * 10 ^ 3 + g / 10 ^ 1) + g / 10 ^ 0 % 10
    simp only [show 10 ^ 1 = 10 by decide, show 10 ^ 3 = 1000 by decide, show 10 ^ 4 = 10000 by decide, Nat.pow_zero]; omega
theorem dk_lt (g k : Nat) : dk g k < 10 := Nat.mod_lt _ (by omega)
/-- the decimal digits of a number, the highest first, none for 0 -/
def rev10 (v : Nat) : List Nat := (digs 10 v).reverse
theorem rev10_step {v c : Nat} (hc : c < 10) (h : 0 < v ∨ 0 < c) : rev10 (10 * v + c) = rev10 v ++ [c] := by
  unfold rev10
  rw [digs_pos (by omega) (by omega : 0 < 10 * v + c), show (10 * v + c) % 10 = c by omega, show (10 * v + c) / 10 = v by omega, List.reverse_cons]
theorem rev10_zero : rev10 0 = [] := by unfold rev10; rw [digs_zero]; rfl
theorem rev10_pos {v : Nat} (h : 0 < v) : 0 < (rev10 v).length := by
  unfold rev10
  rw [List.length_reverse]
  exact List.length_pos_iff.2 (fun e => by have := (digs_eq_nil (B := 10) (by omega)).1 e; omega)

theorem vk_le (m : Nat) {g k : Nat} (hg : g < 10000) (hk : k ≤ 4) : vk m g k ≤ g + 10000 * m := by
  have h0 : vk m g 1 = 10 * vk m g 0 + dk g 0 := vk_step m hg (show 0 < 4 by omega)
  have h1 : vk m g 2 = 10 * vk m g 1 + dk g 1 := vk_step m hg (show 1 < 4 by omega)
  have h2 : vk m g 3 = 10 * vk m g 2 + dk g 2 := vk_step m hg (show 2 < 4 by omega)
  have h3 : vk m g 4 = 10 * vk m g 3 + dk g 3 := vk_step m hg (show 3 < 4 by omega)
  have h4 := vk_four m g
  rcases (show k = 0 ∨ k = 1 ∨ k = 2 ∨ k = 3 ∨ k = 4 by omega) with rfl | rfl | rfl | rfl | rfl <;> omega
theorem drop_le {gs : List Nat} {i v : Nat} (hi : i ≤ gs.length) (hv : v ≤ valB 10000 (gs.drop i)) : v ≤ valB 10000 gs := by
  have h := valB_split 10000 gs i hi
  have h1 : 1 * valB 10000 (gs.drop i) ≤ 10000 ^ i * valB 10000 (gs.drop i) := Nat.mul_le_mul_right _ (Nat.pow_pos (by omega))
  omega
theorem rev10_len {v n L : Nat} (hv : v ≤ n) (hn : (digs 10000 n).length ≤ L) : (rev10 v).length ≤ 4 * L := by
  unfold rev10
  rw [List.length_reverse]
  refine digs_length_le (by omega) (Nat.lt_of_le_of_lt hv ?_)
  rw [Nat.pow_mul, show 10 ^ 4 = 10000 by decide]
  exact (digs_le_iff (by omega) n L).1 hn
def TextRefRel (B : Nat) (w : World) (n : Nat) (gk : Nat) (v3 v4 : Value) (wr : World) : Prop :=
  ∃ (R : Nat) (gs : List Nat) (p q : Option Addr) (c d : Nat), v3 = .slice p (D32 R).length c ∧ v4 = .slice q gs.length d ∧ digs 10000 n = gs ++ digs 10000 R ∧ NatO B wr p c (D32 R) ∧ NatO B wr q d gs ∧ Below B w wr ∧ R ≤ gk ∧ R ≤ n

theorem four_cells (w : World) (g : Nat) (j : Nat) (hj : j < 4) : (w.alloc (.cells #[.int .u8 (48 + (g : Int) / 1000), .int .u8 (48 + (g : Int) / 100 % 10), .int .u8 (48 + (g : Int) / 10 % 10), .int .u8 (48 + (g : Int) % 10)] 5)).cell? ⟨w.heap.size, j, none⟩ = some (.int .u8 ((48 + (if j = 0 then g / 1000 else dk g j) : Nat) : Int)) := by
  rw [cell_alloc_at _ _ _ _ _ rfl]
  rcases (show j = 0 ∨ j = 1 ∨ j = 2 ∨ j = 3 by omega) with rfl | rfl | rfl | rfl
  · simp
  · simp [dk]
  · simp [dk]
  · simp [dk]
/-- what Text has written so far: the digits of v -/
def OutRel (B : Nat) (w2 : World) (gs : List Nat) (v6 v7 : Value) (wr : World) : Prop :=
  ∃ (j : Nat), j ≤ gs.length ∧ v7 = .int .i64 ((j : Int) - 1) ∧ DigO B wr v6 (rev10 (valB 10000 (gs.drop j))) ∧ Below B w2 wr
def Four (B : Nat) (w4 : World) (h m g : Nat) (v6 v10 : Value) (wr : World) : Prop :=
  ∃ (k : Nat), k ≤ 4 ∧ v10 = .int .i64 (k : Int) ∧ DigO B wr v6 (rev10 (vk m g k)) ∧ v6.ownBlock ≠ some h ∧ h < wr.heap.size ∧ (∀ j, j < 4 → wr.cell? ⟨h, j, none⟩ = some (.int .u8 ((48 + dk g j : Nat) : Int))) ∧ Below B w4 wr
set_option maxRecDepth 100000 in
set_option maxHeartbeats 4000000 in
theorem text_ref (p : Option Addr) (cap : Nat) (l : List Nat) (w : World) (h : NatV w.heap.size w p cap l) (hl : l.length ≤ 100000) :
    Calls Tryd.prog 60 #[.slice p l.length cap] w (Tells (.string (textOf (V32 l))) w) := by
  obtain ⟨i0, hi, hz0, hz1, hz2⟩ := info_parts info32
  obtain ⟨i8, hi8, hy0, hy1, hy2⟩ := info_parts info8
  have hN := norm_any p cap l w h (by omega)
  have hgl := group_len (V32_lt h.ok)
  have hlen : (D32 (V32 l)).length ≤ 100000 := Nat.le_trans (D32_le h.ok) hl
  obtain ⟨n, hn⟩ : ∃ n, V32 l = n := ⟨_, rfl⟩
  rw [hn] at hN hgl hlen
  have HNN := Lib.hid hn
  have HL := Lib.hid hlen
  have hgl2 : (digs 10000 n).length ≤ 300000 := by omega
  have HGL := Lib.hid hgl2
  clear h hn hlen hgl hgl2
  go_enter Tryd.func60, Tryd.ntmps60
  go_wp2_with fail
  refine hN.mono ?_
  clear hN
  rintro e w1 ⟨p1, c1, rfl, ho1, hb1⟩
  have HO1 := Lib.hid (And.intro ho1 hb1)
  clear ho1 hb1
  go_wp2_with fail
  go_loopg [3, 4] n (fun gk v3 v4 wr => TextRefRel w.heap.size w n gk v3 v4 wr)
  case atStart => exact ⟨n, [], p1, none, c1, 0, rfl, rfl, rfl, HO1.out.1, NatO.nothing _ _, HO1.out.2, Nat.le_refl _, Nat.le_refl _⟩
  case round =>
    obtain ⟨R, gs, p', q, c, d, rfl, rfl, hG, ho, hq, hb, hgk, hRle⟩ := hrel
    have hwB : w.heap.size ≤ wr.heap.size := hb.size
    rcases Nat.eq_zero_or_pos R with rfl | hR0
    · have hl0 : (D32 0).length = 0 := by rw [D32_nil.2 rfl]; rfl
      rw [hl0]
      have hG2 : digs 10000 n = gs := by rw [hG, digs_zero, List.append_nil]
      have hgsl : gs.length ≤ 300000 := by rw [← hG2]; exact HGL.out
      rcases Nat.eq_zero_or_pos gs.length with hz | hz
      · have hn0 : n = 0 := by
          rw [List.eq_nil_of_length_eq_zero hz] at hG2
          exact (digs_eq_nil (by omega)).1 hG2
        have HE := Lib.hid (And.intro hb hn0)
        rw [hz]
        clear hl0 hG hG2 ho hq hb hz hn0 hgsl
        go_wp2_with fail
        go_ret
        refine ⟨?_, HE.out.1⟩
        rw [HNN.out, HE.out.2]
        rfl
      · have hne : ((gs.length : Int) == 0) = false := by rw [beq_eq_false_iff_ne]; omega
        have hgok : okB 10000 gs := by rw [← hG2]; exact digs_ok (by omega) n
        have hgv : valB 10000 gs = n := by rw [← hG2]; exact valB_digs (by omega) n
        have hn0 : n ≠ 0 := by
          rintro rfl
          rw [digs_zero] at hG2
          rw [← hG2] at hz
          exact absurd hz (by decide)
        have hqv := hq.toV
        have HQ := Lib.hid (And.intro hqv (And.intro hgok (And.intro hgv (And.intro hn0 hb))))
        clear hl0 hG hG2 ho hq hb hqv hgok hgv hn0
        go_wp2_with fail
        obtain ⟨w2, hw2⟩ : ∃ w2 : World, w2 = wr := ⟨_, rfl⟩
        subst hw2
        go_loopw [6, 7] (fun v6 v7 wr => OutRel w2.heap.size w2 gs v6 v7 wr) (fun _ v _ => (intOf v + 1).toNat)
        case atStart => exact ⟨gs.length, Nat.le_refl _, rfl, by rw [List.drop_length]; exact ⟨none, 0, by rw [show valB 10000 [] = 0 from rfl, rev10_zero]; rfl, by rw [show valB 10000 [] = 0 from rfl, rev10_zero]; exact World.ownsRow_nil _ _ _ _⟩, Below.refl _ _⟩
        case round =>
          obtain ⟨j, hj, rfl, ⟨pd, cd, rfl, hd⟩, hb⟩ := hrel
          have hwB2 : w2.heap.size ≤ wr.heap.size := hb.size
          rcases Nat.eq_zero_or_pos j with rfl | hj0
          · rw [List.drop_zero, HQ.out.2.2.1] at hd ⊢
            have hpos := rev10_pos (v := n) (by have := HQ.out.2.2.2.1; omega)
            obtain ⟨bs, hbs⟩ : ∃ bs, chars (rev10 n) = bs := ⟨_, rfl⟩
            have hbl : (rev10 n).length = bs.length := by rw [← hbs, chars_length]
            rw [hbs] at hd
            rw [hbl] at hd hpos ⊢
            rcases own_shape hd with ⟨_, h0, _⟩ | ⟨g, cap', hv, hg, hglt, hc, hm, hcl, _⟩
            · omega
            obtain ⟨rfl, rfl⟩ : pd = some ⟨g, 0, none⟩ ∧ cd = cap' := by simpa using hv
            have hlen2 : bs.length ≤ 9223372036854775807 := by unfold maxLen at hm; omega
            have hcv := run_convert_bytes_arg (P := Tryd.prog) wr 95 5 Tryd.underlying95 Tryd.underlying5 g 0 bs.length cd (bs.map fun (b : Nat) => (b : Int)) (by simp) (fun i hi => by
              rw [Nat.zero_add]
              have hir : i < bs.length := by simpa using hi
              have h1 := (hd.cellAt i (by omega))
              rw [h1, cells8_get (List.getElem?_eq_getElem hir)]
              simp [List.getD_eq_getElem?_getD, hir]) 9 Tryd.underlying9
            have htx : strOfNums (bs.map fun (b : Nat) => (b : Int)) = textOf n := by
              unfold textOf decL
              rw [if_neg HQ.out.2.2.2.1, ← hbs]
              congr 1
              unfold chars rev10
              rw [List.map_map]
              rfl
            rw [htx] at hcv
            have HB := Lib.hid (HQ.out.2.2.2.2.trans (hb.mono hwB))
            clear hd hb hbs hbl htx hv hg hglt hc hm hcl hpos
            go_wp2_with fail
            go_ret
            exact ⟨by rw [HNN.out]; rfl, HB.out⟩
          · obtain ⟨i, rfl⟩ : ∃ i, j = i + 1 := ⟨j - 1, by omega⟩
            rw [show (((i + 1 : Nat) : Int) - 1) = (i : Int) by omega]
            obtain ⟨g, hg⟩ := some_get (l := gs) (k := i) (by omega)
            obtain ⟨bg, off, rfl, hbg, hcg⟩ := (HQ.out.1.below hb).cell (List.length_pos_iff.1 hz)
            have hcx := hcg i g hg
            have hgl : g < 10000 := ok_get HQ.out.2.1 hg
            have hdr := valB_dropq 10000 hg
            obtain ⟨m, hm⟩ : ∃ m, valB 10000 (gs.drop (i + 1)) = m := ⟨_, rfl⟩
            rw [hm] at hd hdr ⊢
            have HD := Lib.hid (And.intro hd (And.intro hdr hb))
            clear hcg hg hdr hd hb hm
            have hfc := fun j hj => four_cells wr g j hj
            go_wp2_with fail
            obtain ⟨w4, hw4⟩ : ∃ w4, w4 = wr.alloc (.cells #[.int .u8 (48 + (g : Int) / 1000), .int .u8 (48 + (g : Int) / 100 % 10), .int .u8 (48 + (g : Int) / 10 % 10), .int .u8 (48 + (g : Int) % 10)] 5) := ⟨_, rfl⟩
            have hs4 : w4.heap.size = wr.heap.size + 1 := by rw [hw4]; simp
            have hb4 : Below wr.heap.size wr w4 := by rw [hw4]; exact (Below.refl _ _).alloc (Nat.le_refl _) _
            rw [← hw4] at hfc ⊢
            have hfc2 : ∀ j, j < 4 → w4.cell? ⟨wr.heap.size, j, none⟩ = some (.int .u8 ((48 + dk g j : Nat) : Int)) := fun j hj => by
              rw [hfc j hj]
              by_cases h0 : j = 0
              · subst h0
                rw [if_pos rfl]
                have : dk g 0 = g / 1000 := by show g / 10 ^ 3 % 10 = _; rw [show 10 ^ 3 = 1000 by decide]; omega
                rw [this]
              · rw [if_neg h0]
            obtain ⟨h4, hh4⟩ : ∃ h4, wr.heap.size = h4 := ⟨_, rfl⟩
            have hob : (Value.slice pd (rev10 m).length cd).ownBlock ≠ some h4 := fun e => by have := (HD.out.1.lt h4 e).2; omega
            have hd4 : w4.ownsRow w2.heap.size 5 1 (.slice pd (rev10 m).length cd) (rev10 m).length (cells8 (chars (rev10 m))) := by
              rw [hw4]; exact HD.out.1.alloc _
            rw [hh4] at hfc2 hs4 hwB2 ⊢
            have HF := Lib.hid (And.intro hfc2 (And.intro hob (And.intro hd4 (HD.out.2.2.trans (hb4.mono (by omega))))))
            clear hfc hfc2 hob hd4 hb4 hw4
            go_loopw [6, 10] (fun v6 v10 wr => Four w2.heap.size w2 h4 m g v6 v10 wr) (fun _ v _ => 4 - (intOf v).toNat)
            case atStart => exact ⟨0, by omega, rfl, ⟨pd, cd, by rw [vk_zero m hgl], by rw [vk_zero m hgl]; exact HF.out.2.2.1⟩, HF.out.2.1, by omega, HF.out.1, HF.out.2.2.2⟩
            case round =>
              obtain ⟨k, hk, rfl, ⟨pd5, cd5, rfl, hd5⟩, hob, hhl, hcs, hb5⟩ := hrel
              have hwB5 : w2.heap.size ≤ wr.heap.size := hb5.size
              by_cases hk4 : k < 4
              · have hck := hcs k hk4
                have hdl := dk_lt g k
                have hvs := vk_step m hgl hk4
                obtain ⟨v, hv⟩ : ∃ v, vk m g k = v := ⟨_, rfl⟩
                obtain ⟨ds, hds⟩ : ∃ ds, rev10 v = ds := ⟨_, rfl⟩
                rw [hv, hds] at hd5 hob ⊢
                rw [hv] at hvs
                obtain ⟨c, hc⟩ : ∃ c, dk g k = c := ⟨_, rfl⟩
                rw [hc] at hck hdl hvs
                obtain ⟨L, hL⟩ : ∃ L, ds.length = L := ⟨_, rfl⟩
                rw [hL] at hd5 hob ⊢
                have hLl : L ≤ 1200000 := by
                  have h1 := vk_le m hgl hk
                  rw [hv, ← HD.out.2.1] at h1
                  have h2 := drop_le (by omega) h1
                  rw [HQ.out.2.2.1] at h2
                  have h3 := rev10_len h2 HGL.out
                  rw [hds, hL] at h3
                  omega
                by_cases hgo : 0 < v ∨ 0 < c
                · have hst := rev10_step hdl hgo
                  rw [← hvs, hds] at hst
                  have hLv : 0 < v → 0 < L := fun h => by have := rev10_pos h; rw [hds, hL] at this; exact this
                  have hown := hd5
                  have HX := Lib.hid (And.intro hst (And.intro hob (And.intro hcs (And.intro hb5 (And.intro hL hds)))))
                  have hgo2 : 0 < L ∨ (L = 0 ∧ 0 < c) := by
                    rcases Nat.eq_zero_or_pos L with h | h
                    · right; refine ⟨h, ?_⟩
                      rcases hgo with h1 | h1
                      · have := hLv h1; omega
                      · exact h1
                    · left; exact h
                  clear hst hob hcs hb5 hL hds hd5 hLv hvs hgo hv hc
                  rcases hgo2 with h1 | ⟨h1, h2⟩
                  all_goals
                    first
                      | (have h3 : decide ((0 : Int) < (L : Int)) = false := by rw [decide_eq_false_iff_not]; omega
                         have h44 : decide (0 < L) = false := by rw [decide_eq_false_iff_not]; omega
                         have H1 := Lib.hid h1
                         clear h1)
                      | skip
                    go_wp2_with (at_builtin; refine wpList_append_lies _ rfl _ _ 95 rfl w2.heap.size 5 i8 (.int .u8 0) 1 1 Tryd.underlying95 hi8 hy0 hy1 hy2 rfl (by decide) _ L (cells8 (chars ds)) rfl (hown.alloc _) ⟨wr.heap.size, 0, none⟩ 1 1 [.int .u8 ((48 + c : Nat) : Int)] rfl rfl (cell_one_new _ _ _) ?c2 (by omega) ?c3 ?c4 ?c5 (wr.heap.size + 1) (by simp) ?_)
                    case c2 => intro u hu; simp at hu; subst hu; rfl
                    case c3 => unfold maxLen; omega
                    case c4 => omega
                    case c5 => simp; omega
                    intro gg cap5 w5 hown' hgrow hat hlt5
                    have hown2 : w5.ownsRow w2.heap.size 5 1 (.slice (some ⟨gg, 0, none⟩) (L + 1) cap5) (L + 1) (cells8 (chars ds) ++ [.int .u8 ((48 + c : Nat) : Int)]) := hown'
                    rw [← cells8_snoc, ← chars_snoc] at hown2
                    have hlen' : L + 1 = (ds ++ [c]).length := by rw [List.length_append, List.length_singleton, HX.out.2.2.2.2.1]
                    rw [hlen'] at hown2
                    have hb6 : Below w2.heap.size w2 w5 := (HX.out.2.2.2.1.alloc hwB5 _).grown hgrow (by simp; omega) (fun j hj => (hown.lt j hj).1)
                    have hob6 : gg ≠ h4 := by
                      rintro rfl
                      rcases hat with h | h
                      · exact HX.out.2.1 h
                      · omega
                    have hs5 : h4 < w5.heap.size := by have := hgrow.size; simp at this; omega
                    have hcs6 : ∀ j, j < 4 → w5.cell? ⟨h4, j, none⟩ = some (.int .u8 ((48 + dk g j : Nat) : Int)) := fun j hj => (hgrow.cell_far ⟨h4, j, none⟩ (by simp; omega) (Ne.symm HX.out.2.1)).trans ((World.cell?_alloc_lt _ _ ⟨h4, j, none⟩ hhl).trans (HX.out.2.2.1 j hj))
                    have HY := Lib.hid (And.intro hown2 (And.intro hlen' (And.intro hb6 (And.intro hob6 hcs6))))
                    clear hown hown' hown2 hgrow hlen' hb6 hob6 hcs6 hat
                    go_wp2_with fail
                    go_roundw
                    case rel => exact ⟨k + 1, by omega, by go_num, ⟨some ⟨gg, 0, none⟩, cap5, by rw [HX.out.1, ← HY.out.2.1], by rw [HX.out.1]; exact HY.out.1⟩, (fun e => HY.out.2.2.2.1 (Option.some.inj e)), hs5, HY.out.2.2.2.2, HY.out.2.2.1⟩
                    case measure => simp [intOf]; omega
                · have hv0 : v = 0 := by omega
                  have hc0 : c = 0 := by omega
                  subst hv0
                  subst hc0
                  have hL0 : L = 0 := by rw [← hL, ← hds, rev10_zero]; rfl
                  have hst : rev10 (vk m g (k + 1)) = ds := by rw [hvs, ← hds]
                  have h3 : decide ((0 : Int) < (L : Int)) = false := by rw [decide_eq_false_iff_not]; omega
                  have h4' : decide (0 < L) = false := by rw [decide_eq_false_iff_not]; omega
                  have HX := Lib.hid (And.intro hst (And.intro hob (And.intro hcs (And.intro hb5 (And.intro hL hd5)))))
                  clear hst hob hcs hb5 hL hds hd5 hvs hgo hv hc hL0
                  go_wp2_with fail
                  go_roundw
                  case rel => exact ⟨k + 1, by omega, by go_num, ⟨pd5, cd5, by rw [HX.out.1, HX.out.2.2.2.2.1], by rw [HX.out.1, HX.out.2.2.2.2.1]; exact HX.out.2.2.2.2.2⟩, HX.out.2.1, hhl, HX.out.2.2.1, HX.out.2.2.2.1⟩
                  case measure => simp [intOf]; omega
              · obtain rfl : k = 4 := by omega
                have hvv : vk m g 4 = valB 10000 (gs.drop i) := by rw [vk_four, HD.out.2.1]
                rw [hvv] at hd5 ⊢
                have HX := Lib.hid (And.intro hd5 hb5)
                clear hd5 hb5 hcs hob hvv
                go_wp2_with fail
                go_roundw
                case rel => exact ⟨i, by omega, rfl, ⟨pd5, cd5, rfl, HX.out.1⟩, HX.out.2⟩
                case measure => simp [intOf]
    · have hne : 0 < (D32 R).length := List.length_pos_iff.2 (fun e => by have := D32_nil.1 e; omega)
      have hst := group_step hG hR0
      have hle : gs.length + 1 ≤ 300000 := by
        have h1 := HGL.out
        have h2 := congrArg List.length hst
        rw [List.length_append, List.length_append, List.length_singleton] at h2
        omega
      have hRn : (D32 R).length ≤ 100000 := by
        rcases Nat.lt_or_ge (D32 n).length (D32 R).length with h1 | h1
        · have := cmp_len h1; omega
        · have := HL.out; omega
      have hov := over_ref p' c (D32 R) 10000 wr (ho.toV) (by omega) (by omega) (by omega)
      rw [V32_D32] at hov
      obtain ⟨g, hg⟩ : ∃ g, R % 10000 = g := ⟨_, rfl⟩
      obtain ⟨R', hR'⟩ : ∃ R', R / 10000 = R' := ⟨_, rfl⟩
      have hRR : R' < R := by omega
      have hgl : g < 10000 := by omega
      rw [hg, hR'] at hst
      have HS := Lib.hid (And.intro hst (And.intro hq hb))
      have HGR := Lib.hid (And.intro hg hR')
      clear hst hq hb ho hG hg hR'
      go_wp2_with fail
      refine hov.mono ?_
      clear hov
      rintro e w2 ⟨p2, c2, rfl, ho2, hb2⟩
      rw [HGR.out.1, HGR.out.2]
      rw [HGR.out.2] at ho2
      have hs2 := hb2.size
      have hown := (HS.out.2.1.next hb2).own
      have HO2 := Lib.hid (And.intro ho2 (HS.out.2.2.trans (hb2.mono hwB)))
      have hgok : ok32 gs := HS.out.2.1.ok
      have HGO := Lib.hid hgok
      clear hgok
      have hlt2 : ∀ j, (Value.slice q gs.length d).ownBlock = some j → j < wr.heap.size := fun j hj => (HS.out.2.1.own.lt j hj).2
      have HLT := Lib.hid hlt2
      clear ho2 hb2 hlt2
      go_wp2_with (at_builtin; refine wpList_append_own _ rfl _ _ 24 rfl w.heap.size 27 i0 (.int .u32 0) 1 4 Tryd.underlying24 hi hz0 hz1 hz2 rfl (by decide) _ gs.length (cells32 gs) rfl (hown.alloc _) ⟨w2.heap.size, 0, none⟩ 1 1 [.int .u32 (g : Int)] rfl rfl (cell_one_new _ _ _) ?c2 ?c3 ?c4 ?c5 ?_)
      case c2 => intro u hu; simp at hu; subst hu; rfl
      case c3 => unfold maxLen; omega
      case c4 => omega
      case c5 => simp; omega
      intro v' w3 hown' hgrow _
      obtain ⟨q', d', rfl, hq3⟩ := NatO.snoc (x := g) hown' HGO.out (by omega)
      have hb3 : Below w.heap.size w w3 := (HO2.out.2.alloc (by omega) _).grown hgrow (by simp; omega) (fun j hj => (hown.lt j hj).1)
      have ho3 : NatO w.heap.size w3 p2 c2 (D32 R') := by
        refine (NatO.base hwB ⟨(HO2.out.1.own.alloc _).kept hgrow ?_, HO2.out.1.ok⟩)
        rcases hob : (Value.slice p2 (D32 R').length c2).ownBlock with _ | j
        · exact Or.inl rfl
        · right
          intro e
          have h1 := (HO2.out.1.own.lt j hob).1
          have h2 := HLT.out j e.symm
          omega
      have HF := Lib.hid (And.intro hq3 (And.intro hb3 ho3))
      have hRn2 : R' ≤ n := by omega
      clear hown hown' hgrow hq3 hb3 ho3
      go_wp2_with fail
      go_roundg R'
      case rel => exact ⟨R', gs ++ [g], p2, q', c2, d', rfl, rfl, HS.out.1, HF.out.2.2, HF.out.1, HF.out.2.1, Nat.le_refl _, hRn2⟩
      case measure => omega
end Go.Proofs.YthhighljfjeooaaDoor
