/- The document's own package of numbers (edenref02) by its contracts, first part: cut, half, whole, Norm. -/
import Derived.Test.YthhighljfjeooaaDoorNatC
import Derived.Deep.AppendLies
import Derived.Deep.RegionHeld3
namespace Go.Proofs.YthhighljfjeooaaDoor
open Go.RowKit NatM

def D16 (n : Nat) : List Nat := digs 65536 n
def V16 (l : List Nat) : Nat := valB 65536 l
theorem D16_ok (n : Nat) : okB 65536 (D16 n) := digs_ok (by omega) n
theorem D16_nrm (n : Nat) : nrm (D16 n) := digs_nrm (by omega) n
theorem V16_D16 (n : Nat) : V16 (D16 n) = n := valB_digs (by omega) n
theorem trim16 {l : List Nat} (h : okB 65536 l) : ∃ k, k ≤ l.length ∧ l.take k = D16 (V16 l) := trim_ex (by omega) h
theorem D16_le {l : List Nat} (h : okB 65536 l) : (D16 (V16 l)).length ≤ l.length := by
  obtain ⟨k, hk, e⟩ := trim16 h
  rw [← e, List.length_take]; exact Nat.min_le_right _ _
theorem NatO.trim16 {base : Nat} {w : World} {p : Option Addr} {c : Nat} {l : List Nat} (ho : okB 65536 l) (h : NatO base w p c l) : NatO base w p c (D16 (V16 l)) := by
  obtain ⟨k, _, e⟩ := Go.Proofs.YthhighljfjeooaaDoor.trim16 ho
  rw [← e]; exact h.take k

set_option maxHeartbeats 400000 in
theorem cut_any {B : Nat} (p : Option Addr) (c : Nat) (l : List Nat) (w : World) (h : NatV B w p c l) (ho : okB 65536 l) :
    Calls Tryd.prog 91 #[.slice p l.length c] w fun e w' => e = .returned (.slice p (D16 (V16 l)).length c) ∧ w = w' := by
  have hcap := h.cap
  have hle := h.le
  have hnil := Lib.hid h.nil
  unfold maxLen at hcap
  have H := Lib.hid (And.intro h ho)
  clear h ho
  go_enter Tryd.func91, Tryd.ntmps91
  go_wp2
  go_loop [3] (fun v => ∃ k : Nat, k ≤ l.length ∧ v = .int .i64 k ∧ Hid (valB 65536 (l.take k) = valB 65536 l)) (fun v => (intOf v).toNat)
  case atStart => exact ⟨l.length, Nat.le_refl _, rfl, by rw [List.take_length]; exact rfl⟩
  case round =>
    obtain ⟨k, hk, rfl, hv⟩ := hrel
    by_cases h0 : k = 0
    · subst h0
      have hd : D16 (V16 l) = [] := trim0 (B := 65536) (by omega) H.out.2 hv.out
      have HD := Lib.hid hd
      clear hd
      rcases p with _ | a
      · have hc := hnil.out rfl
        subst hc
        go_wp2
        go_ret
        exact ⟨by rw [HD.out]; rfl, rfl⟩
      · go_wp2
        go_ret
        exact ⟨by rw [HD.out]; rfl, rfl⟩
    · have hne : l ≠ [] := by rintro rfl; simp at hk; omega
      obtain ⟨b, off, rfl, hlt, hc⟩ := H.out.1.cell hne
      obtain ⟨x, hx⟩ := some_get (l := l) (k := k - 1) (by omega)
      have hcl := hc (k - 1) x hx
      have HX := Lib.hid hx
      have hk0 : 0 < k := by omega
      clear hx hc hne h0
      by_cases hx0 : x = 0
      · subst hx0
        go_wp2
        go_round
        case rel => exact ⟨k - 1, by omega, by go_num, trim_stepq 65536 hk0 hk hv.out HX.out⟩
        case measure => simp [intOf]; omega
      · have hxx : ((x : Int) == 0) = false := by simpa using hx0
        have hd : D16 (V16 l) = l.take k := (trimq (B := 65536) (by omega) H.out.2 hk hv.out HX.out hx0).symm
        have hdl : (D16 (V16 l)).length = k := by rw [hd, List.length_take, Nat.min_eq_left hk]
        have hck : k ≤ c := by omega
        have HD := Lib.hid hdl
        clear hd hdl
        go_wp2
        go_ret
        exact ⟨by rw [HD.out]; rfl, rfl⟩

theorem half_take {l : List Nat} {k x : Nat} (h : l[k]? = some x) : half (l.take (k + 1)) = half (l.take k) ++ [x % 65536, x / 65536] := by
  rw [take_snoc (get_lt h), half_append, get_eq h]; rfl
theorem half_ok32 {l : List Nat} (h : ok32 l) : ok32 (half l) := fun x hx => Nat.lt_of_lt_of_le (half_ok h x hx) (by omega)
theorem cells32_app (a b : List Nat) : cells32 (a ++ b) = cells32 a ++ cells32 b := by simp [cells32]
theorem D32_lift {n : Nat} : V32 (D32 n) = n := V32_D32 n

/-- own digits in base 65536 of n, none 0 at the end -/
def HalfPost (B : Nat) (w : World) (n : Nat) (e : Ending) (w' : World) : Prop :=
  ∃ p c, e = .returned (.slice p (D16 n).length c) ∧ NatO B w' p c (D16 n) ∧ Below B w w'
def HalfRel (B : Nat) (w : World) (l : List Nat) (v3 v4 : Value) (wr : World) : Prop :=
  ∃ (k : Nat) (p : Option Addr) (cap : Nat), k ≤ l.length ∧ v3 = .slice p (half (l.take k)).length cap ∧ v4 = .int .i64 (k : Int) ∧ NatO B wr p cap (half (l.take k)) ∧ Below B w wr
theorem NatO.app {base : Nat} {w : World} {v : Value} {l m : List Nat} (h : w.ownsRow base 27 1 v (l.length + m.length) (cells32 l ++ cells32 m)) (ok : ok32 l) (hm : ok32 m) : ∃ p c, v = .slice p (l ++ m).length c ∧ NatO base w p c (l ++ m) :=
  NatO.slice_own (l := l ++ m) (by rw [cells32_app, List.length_append]; exact h) (okB_append ok hm)

set_option maxRecDepth 100000 in
set_option maxHeartbeats 4000000 in
theorem half_any (p : Option Addr) (c : Nat) (l : List Nat) (w : World) (h : NatV w.heap.size w p c l) (hl : l.length ≤ 1048576) :
    Calls Tryd.prog 64 #[.slice p l.length c] w (HalfPost w.heap.size w (V32 l)) := by
  obtain ⟨i0, hi, hz0, hz1, hz2⟩ := info_parts info32
  have hle := h.le
  have hcap := h.cap
  have H := Lib.hid h
  clear h
  go_enter Tryd.func64, Tryd.ntmps64
  go_wp2_with fail
  go_loopw [3, 4] (fun v3 v4 wr => HalfRel w.heap.size w l v3 v4 wr) (fun _ v _ => l.length - (intOf v).toNat)
  case atStart => exact ⟨0, none, 0, Nat.zero_le _, rfl, rfl, ⟨World.ownsRow_nil _ _ _ _, okB_nil _⟩, Below.refl _ _⟩
  case round =>
    obtain ⟨k, q, cap, hk, rfl, rfl, ho, hb⟩ := hrel
    have hwB : w.heap.size ≤ wr.heap.size := hb.size
    by_cases hlt : k < l.length
    · obtain ⟨x, hx⟩ := some_get hlt
      obtain ⟨b, off, rfl, hbl, hc⟩ := (H.out.below hb).cell (by rintro rfl; simp at hlt)
      have hcl := hc k x hx
      have hxl : x < 4294967296 := ok_get H.out.ok hx
      have HO := Lib.hid (And.intro ho (And.intro hb hx))
      have hT : (half (l.take k)).length ≤ 2097152 := by rw [half_length, List.length_take]; omega
      have hown := ho.own
      obtain ⟨t, ht⟩ : ∃ t, half (l.take k) = t := ⟨_, rfl⟩
      rw [ht] at hT hown ⊢
      have hne : (Value.slice q t.length cap).ownBlock ≠ some b := fun e => by have := (hown.lt b e).1; omega
      have HT := Lib.hid ht
      clear hc hx ho hb ht
      go_wp2_with fail
      go_region_held3 (fun w' => w'.cell? ⟨b, off + k, none⟩ = some (.int .u32 (x : Int))) (first | go_keep | (go_split_ands; rw [hgrow.cell_far _ (by simp; omega) (Ne.symm hne)]; first | assumption | go_keep | (simp; assumption) | exact hcl)) ((refine step_append_lies _ (by rfl) _ _ _ (by rfl) w.heap.size 27 i0 _ 1 4 Tryd.underlying24 hi hz0 hz1 hz2 rfl (by omega) _ t.length (cells32 t) (by rfl) ((hown.alloc _).drew) ⟨wr.heap.size, 0, none⟩ 2 2 [.int .u32 ((x : Int).tmod 65536), .int .u32 (IntKind.u32.wrap ((x : Int) / 65536))] (by rfl) (by rfl) (World.news_of_block (cs := #[.int .u32 ((x : Int).tmod 65536), .int .u32 (IntKind.u32.wrap ((x : Int) / 65536))]) (t := 27) (fr := (0, 0)) (heap_alloc_new wr _)) (by simp [Value.oneCell']) (by omega) (by unfold maxLen; omega) (by omega) (by simp; omega) (wr.heap.size + 1) (by simp) ?_; intro gg cap' w1 hown1 hgrow hat hlt1))
      have e1 : (x : Int).tmod 65536 = ((x % 65536 : Nat) : Int) := by rw [Int.tmod_eq_emod_of_nonneg (by omega)]; omega
      have e2 : IntKind.u32.wrap ((x : Int) / 65536) = ((x / 65536 : Nat) : Int) := by rw [IntKind.wrap_u32]; omega
      rw [e1, e2] at hown1
      obtain ⟨q', c', hq, ho'⟩ := NatO.app (l := t) (m := [x % 65536, x / 65536]) hown1 (by rw [← HT.out]; exact half_ok32 (okB_take H.out.ok k)) (fun y hy => by simp at hy; omega)
      have hb1 : Below w.heap.size w w1 := (((HO.out.2.1).alloc hwB _).drew).grown hgrow (by simp; omega) (fun j hj => (hown.lt j hj).1)
      have HF := Lib.hid (And.intro hq (And.intro ho' hb1))
      clear hown hown1 hgrow hq ho' hb1
      go_wp2_with fail
      go_roundw
      case rel =>
        refine ⟨k + 1, q', c', by omega, ?_, by go_num, ?_, HF.out.2.2⟩
        · rw [half_take HO.out.2.2, HT.out]; exact HF.out.1
        · rw [half_take HO.out.2.2, HT.out]; exact HF.out.2.1
      case measure => simp [intOf]; omega
    · obtain rfl : k = l.length := by omega
      rw [List.take_length] at ho ⊢
      have hd : V16 (half l) = V32 l := half_val l
      have hko := half_ok H.out.ok
      have HO := Lib.hid (And.intro ho (And.intro hb (And.intro hd hko)))
      clear ho hb hd hko
      go_wp2_with (go_at_call 91; refine (cut_any _ _ (half l) _ HO.out.1.toV HO.out.2.2.2).mono ?_; rintro e w' ⟨rfl, rfl⟩)
      go_ret
      refine ⟨q, cap, ?_, ?_, HO.out.2.1⟩
      · rw [← HO.out.2.2.1]; rfl
      · rw [← HO.out.2.2.1]; exact HO.out.1.trim16 HO.out.2.2.2

theorem join_app (b : List Nat) : ∀ {k : Nat} {a : List Nat}, a.length = 2 * k → join (a ++ b) = join a ++ join b
  | 0, a, h => by obtain rfl := List.eq_nil_of_length_eq_zero (by simpa using h); rfl
  | k + 1, [], h => by simp at h
  | k + 1, [_], h => by simp at h; omega
  | k + 1, x :: y :: a, h => by
    rw [List.cons_append, List.cons_append, join, join, join_app b (k := k) (by simp at h; omega)]; rfl
theorem join_two {e : List Nat} {i x y : Nat} (hi : i % 2 = 0) (hx : e[i]? = some x) (hy : e[i + 1]? = some y) : join (e.take (i + 2)) = join (e.take i) ++ [x + 65536 * y] := by
  rw [show i + 2 = i + 1 + 1 by omega, take_snoc (get_lt hy), take_snoc (get_lt hx), List.append_assoc, join_app _ (k := i / 2) (by rw [List.length_take]; have := get_lt hx; omega), get_eq hx, get_eq hy]; rfl
theorem join_one {e : List Nat} {i x : Nat} (hi : i % 2 = 0) (hx : e[i]? = some x) (hn : e.length = i + 1) : join (e.take (i + 2)) = join (e.take i) ++ [x] := by
  rw [List.take_of_length_le (by omega)]
  have h : e = e.take i ++ [x] := by
    have := take_snoc (get_lt hx)
    rw [List.take_of_length_le (by omega), get_eq hx] at this
    exact this
  rw [h, join_app _ (k := i / 2) (by rw [List.length_take]; omega), List.take_left' (by rw [List.length_take]; omega)]; rfl
theorem join_len : ∀ e : List Nat, (join e).length ≤ e.length
  | [] => Nat.le_refl _
  | [_] => Nat.le_refl _
  | _ :: _ :: e => by
    have := join_len e
    simp [join]; omega

def WholeRel (B : Nat) (w : World) (e : List Nat) (v3 v4 : Value) (wr : World) : Prop :=
  ∃ (i : Nat) (p : Option Addr) (cap : Nat), i ≤ e.length + 1 ∧ i % 2 = 0 ∧ v3 = .slice p (join (e.take i)).length cap ∧ v4 = .int .i64 (i : Int) ∧ NatO B wr p cap (join (e.take i)) ∧ Below B w wr

set_option maxRecDepth 100000 in
set_option maxHeartbeats 4000000 in
theorem whole_any (p : Option Addr) (c : Nat) (l : List Nat) (w : World) (h : NatV w.heap.size w p c l) (hko : okB 65536 l) (hl : l.length ≤ 4194304) :
    Calls Tryd.prog 83 #[.slice p l.length c] w (RaisePost w.heap.size w (V16 l)) := by
  obtain ⟨i0, hi, hz0, hz1, hz2⟩ := info_parts info32
  have hle := h.le
  have hcap := h.cap
  obtain ⟨n, hn⟩ : ∃ n, V16 l = n := ⟨_, rfl⟩
  obtain ⟨e, he⟩ : ∃ e, D16 n = e := ⟨_, rfl⟩
  have hee : e.length ≤ l.length := by rw [← he, ← hn]; exact D16_le hko
  have hV : NatV w.heap.size w p c e := by
    obtain ⟨k, _, e1⟩ := trim16 hko
    rw [← he, ← hn, ← e1]; exact h.take k
  have hek : okB 65536 e := by rw [← he]; exact D16_ok n
  have hej : join e = D32 n := by rw [← he]; exact join_digs n
  have H := Lib.hid (And.intro h hko)
  have HE := Lib.hid (And.intro hV (And.intro hek hej))
  have hel : (D16 (V16 l)).length = e.length := by rw [hn, he]
  have HL := Lib.hid hel
  clear h hko hV hek hej he
  rw [hn]
  clear hn hel
  go_enter Tryd.func83, Tryd.ntmps83
  go_wp2_with (go_at_call 91; refine (cut_any _ _ l _ H.out.1 H.out.2).mono ?_; rintro e' w' ⟨rfl, rfl⟩)
  rw [HL.out]
  go_loopw [3, 4] (fun v3 v4 wr => WholeRel w.heap.size w e v3 v4 wr) (fun _ v _ => e.length + 1 - (intOf v).toNat)
  case atStart => exact ⟨0, none, 0, Nat.zero_le _, rfl, rfl, rfl, ⟨World.ownsRow_nil _ _ _ _, okB_nil _⟩, Below.refl _ _⟩
  case round =>
    obtain ⟨i, q, cap, hk, hev, rfl, rfl, ho, hb⟩ := hrel
    have hwB : w.heap.size ≤ wr.heap.size := hb.size
    by_cases hlt : i < e.length
    · obtain ⟨x, hx⟩ := some_get hlt
      obtain ⟨b, off, rfl, hbl, hc⟩ := (HE.out.1.below hb).cell (by rintro rfl; simp at hlt)
      have hcl := hc i x hx
      have hxl : x < 65536 := ok_get HE.out.2.1 hx
      have hT : (join (e.take i)).length ≤ 4194304 := by have := join_len (e.take i); rw [List.length_take] at this; omega
      have hown := ho.own
      obtain ⟨t, ht⟩ : ∃ t, join (e.take i) = t := ⟨_, rfl⟩
      have hot := ho.ok
      rw [ht] at hT hown hot ⊢
      have HT := Lib.hid (And.intro ht (And.intro hb (And.intro hot hev)))
      by_cases hlt2 : i + 1 < e.length
      · obtain ⟨y, hy⟩ := some_get hlt2
        have hcl2 := hc (i + 1) y hy
        have hyl : y < 65536 := ok_get HE.out.2.1 hy
        have HX := Lib.hid (join_two hev hx hy)
        clear hc hx hy ho hb ht hot hev
        go_wp2_with (at_builtin; refine wpList_append_own _ rfl _ _ 25 rfl w.heap.size 27 i0 (.int .u32 0) 1 4 Tryd.underlying25 hi hz0 hz1 hz2 rfl (by decide) _ t.length (cells32 t) rfl (hown.alloc _) ⟨wr.heap.size, 0, none⟩ 1 1 [.int .u32 ((x : Int) + 65536 * (y : Int))] rfl rfl (cell_one_new _ _ _) ?cd2 ?cd3 ?cd4 ?cd5 ?_)
        case cd2 => intro u hu; simp at hu; subst hu; rfl
        case cd3 => unfold maxLen; omega
        case cd4 => omega
        case cd5 => simp; omega
        intro v' w1 hown' hgrow _
        rw [show ((x : Int) + 65536 * (y : Int)) = ((x + 65536 * y : Nat) : Int) by omega] at hown'
        obtain ⟨q', cap', rfl, ho1⟩ := NatO.snoc (x := x + 65536 * y) hown' HT.out.2.2.1 (by omega)
        have hb1 : Below w.heap.size w w1 := (HT.out.2.1.alloc hwB _).grown hgrow (by simp; omega) (fun j hj => (hown.lt j hj).1)
        have HO := Lib.hid (And.intro ho1 hb1)
        clear hown hown' hgrow ho1 hb1
        go_wp2_with fail
        go_roundw
        case rel =>
          refine ⟨i + 2, q', cap', by omega, by have := HT.out.2.2.2; omega, ?_, by go_num, ?_, HO.out.2⟩
          · rw [HX.out, HT.out.1]
          · rw [HX.out, HT.out.1]; exact HO.out.1
        case measure => simp [intOf]; omega
      · have HX := Lib.hid (join_one hev hx (show e.length = i + 1 by omega))
        clear hc hx ho hb ht hot hev
        go_wp2_with (at_builtin; refine wpList_append_own _ rfl _ _ 25 rfl w.heap.size 27 i0 (.int .u32 0) 1 4 Tryd.underlying25 hi hz0 hz1 hz2 rfl (by decide) _ t.length (cells32 t) rfl (hown.alloc _) ⟨wr.heap.size, 0, none⟩ 1 1 [.int .u32 ((x : Int))] rfl rfl (cell_one_new _ _ _) ?ce2 ?ce3 ?ce4 ?ce5 ?_)
        case ce2 => intro u hu; simp at hu; subst hu; rfl
        case ce3 => unfold maxLen; omega
        case ce4 => omega
        case ce5 => simp; omega
        intro v' w1 hown' hgrow _
        obtain ⟨q', cap', rfl, ho1⟩ := NatO.snoc (x := x) hown' HT.out.2.2.1 (by omega)
        have hb1 : Below w.heap.size w w1 := (HT.out.2.1.alloc hwB _).grown hgrow (by simp; omega) (fun j hj => (hown.lt j hj).1)
        have HO := Lib.hid (And.intro ho1 hb1)
        clear hown hown' hgrow ho1 hb1
        go_wp2_with fail
        go_roundw
        case rel =>
          refine ⟨i + 2, q', cap', by omega, by have := HT.out.2.2.2; omega, ?_, by go_num, ?_, HO.out.2⟩
          · rw [HX.out, HT.out.1]
          · rw [HX.out, HT.out.1]; exact HO.out.1
        case measure => simp [intOf]; omega
    · have hd : join (e.take i) = D32 n := by rw [List.take_of_length_le (by omega)]; exact HE.out.2.2
      rw [hd] at ho ⊢
      have HO := Lib.hid (And.intro ho hb)
      clear ho hb hd
      go_wp2_with fail
      go_ret
      exact ⟨q, cap, rfl, HO.out.1, HO.out.2⟩
end Go.Proofs.YthhighljfjeooaaDoor
