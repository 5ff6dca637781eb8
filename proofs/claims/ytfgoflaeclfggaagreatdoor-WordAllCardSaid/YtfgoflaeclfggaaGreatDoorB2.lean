/- The document's own package of numbers (edenref02) by its contracts, first part: cut, half, whole, Norm.
Package nat by its contracts, fourth part: Mul.
Package nat by its contracts, fifth part: Div32, divide, extend, slices.Clone.
Plain mathematics of decimal digits, and of turning a list round; no part of the program.
Package nat by its contracts, sixth part: slices.Reverse, Text.
Plain mathematics of decimal texts: which are numbers, which number, and back; no part of the program.
Package nat by its contracts, seventh part: Parse.
Plain mathematics of differences of lists of digits; no part of the program.
Package nat by its contracts, eighth part: Sub32, Sub, Over, From, Pow.
The statements' own tests: awake, normal, long.
Plain mathematics of binary digits; no part of the program.
Package nat by its contracts, ninth part: Over, From, Pow, Bits.
The document's own package of numbers by its contracts, second part: Norm, Fits, From, Low, Cmp.
The document's own package of numbers by its contracts, third part: Cmp, Low.
The document's own package of numbers by its contracts, fourth part: Add, Sum.
The document's own package of numbers by its contracts, fifth part: Sum.
The document's own package of numbers by its contracts, sixth part: Sub.
Posts of calls that only draw. -/
import Derived.Test.YtfgoflaeclfggaaGreatDoorB1
import Derived.Deep.AppendLies
import Derived.Deep.RegionHeld3
import Derived.Laws.MakeOwn
import Derived.Laws.BitsAllLaws
import Derived.WalkSpells
import Derived.Maps.AppendAt
import Derived.OwnWalk
import Derived.RegionTactic
import Derived.ChangeAlike
import Derived.Laws.BytesArg
section
namespace Go.Proofs.YtfgoflaeclfggaaGreatDoor
open Go.RowKit NatM

def D16 (n : Nat) : List Nat := digs 65536 n
def V16 (l : List Nat) : Nat := valB 65536 l
theorem D16_ok (n : Nat) : okB 65536 (D16 n) := digs_ok (by omega) n
theorem D16_nrm (n : Nat) : nrm (D16 n) := digs_nrm (by omega) n
theorem V16_D16 (n : Nat) : V16 (D16 n) = n := valB_digs (by omega) n
theorem trim16 {l : List Nat} (h : okB 65536 l) : ∃ k, k ≤ l.length ∧ l.take k = D16 (V16 l) := trim_ex (by omega) h
theorem D16_le {l : List Nat} (h : okB 65536 l) : (D16 (V16 l)).length ≤ l.length := by
  obtain ⟨k, hk, e⟩ := trim16 h
  rw [← e, List.length_take]; exact Nat.min_le_right _ _
theorem NatO.trim16 {base : Nat} {w : World} {p : Option Addr} {c : Nat} {l : List Nat} (ho : okB 65536 l) (h : NatO base w p c l) : NatO base w p c (D16 (V16 l)) := by
  obtain ⟨k, _, e⟩ := Go.Proofs.YtfgoflaeclfggaaGreatDoor.trim16 ho
  rw [← e]; exact h.take k

set_option maxHeartbeats 400000 in
theorem cut_any {B : Nat} (p : Option Addr) (c : Nat) (l : List Nat) (w : World) (h : NatV B w p c l) (ho : okB 65536 l) :
    Calls Tryz.prog 147 #[.slice p l.length c] w fun e w' => e = .returned (.slice p (D16 (V16 l)).length c) ∧ w = w' := by
  have hcap := h.cap
  have hle := h.le
  have hnil := Lib.hid h.nil
  unfold maxLen at hcap
  have H := Lib.hid (And.intro h ho)
  clear h ho
  go_enter Tryz.func147, Tryz.ntmps147
  go_wp2
  go_loop [3] (fun v => ∃ k : Nat, k ≤ l.length ∧ v = .int .i64 k ∧ Hid (valB 65536 (l.take k) = valB 65536 l)) (fun v => (intOf v).toNat)
  case atStart => exact ⟨l.length, Nat.le_refl _, rfl, by rw [List.take_length]; exact rfl⟩
  case round =>
    obtain ⟨k, hk, rfl, hv⟩ := hrel
    by_cases h0 : k = 0
    · subst h0
      have hd : D16 (V16 l) = [] := trim0 (B := 65536) (by omega) H.out.2 hv.out
      have HD := Lib.hid hd
      clear hd
      rcases p with _ | a
      · have hc := hnil.out rfl
        subst hc
        go_wp2
        go_ret
        exact ⟨by rw [HD.out]; rfl, rfl⟩
      · go_wp2
        go_ret
        exact ⟨by rw [HD.out]; rfl, rfl⟩
    · have hne : l ≠ [] := by rintro rfl; simp at hk; omega
      obtain ⟨b, off, rfl, hlt, hc⟩ := H.out.1.cell hne
      obtain ⟨x, hx⟩ := some_get (l := l) (k := k - 1) (by omega)
      have hcl := hc (k - 1) x hx
      have HX := Lib.hid hx
      have hk0 : 0 < k := by omega
      clear hx hc hne h0
      by_cases hx0 : x = 0
      · subst hx0
        go_wp2
        go_round
        case rel => exact ⟨k - 1, by omega, by go_num, trim_stepq 65536 hk0 hk hv.out HX.out⟩
        case measure => simp [intOf]; omega
      · have hxx : ((x : Int) == 0) = false := by simpa using hx0
        have hd : D16 (V16 l) = l.take k := (trimq (B := 65536) (by omega) H.out.2 hk hv.out HX.out hx0).symm
        have hdl : (D16 (V16 l)).length = k := by rw [hd, List.length_take, Nat.min_eq_left hk]
        have hck : k ≤ c := by omega
        have HD := Lib.hid hdl
        clear hd hdl
        go_wp2
        go_ret
        exact ⟨by rw [HD.out]; rfl, rfl⟩

theorem half_take {l : List Nat} {k x : Nat} (h : l[k]? = some x) : half (l.take (k + 1)) = half (l.take k) ++ [x % 65536, x / 65536] := by
  rw [take_snoc (get_lt h), half_append, get_eq h]; rfl
theorem half_ok32 {l : List Nat} (h : ok32 l) : ok32 (half l) := fun x hx => Nat.lt_of_lt_of_le (half_ok h x hx) (by omega)
theorem cells32_app (a b : List Nat) : cells32 (a ++ b) = cells32 a ++ cells32 b := by simp [cells32]
theorem D32_lift {n : Nat} : V32 (D32 n) = n := V32_D32 n

/-- own digits in base 65536 of n, none 0 at the end -/
def HalfPost (B : Nat) (w : World) (n : Nat) (e : Ending) (w' : World) : Prop :=
  ∃ p c, e = .returned (.slice p (D16 n).length c) ∧ NatO B w' p c (D16 n) ∧ Below B w w'
def HalfRel (B : Nat) (w : World) (l : List Nat) (v3 v4 : Value) (wr : World) : Prop :=
  ∃ (k : Nat) (p : Option Addr) (cap : Nat), k ≤ l.length ∧ v3 = .slice p (half (l.take k)).length cap ∧ v4 = .int .i64 (k : Int) ∧ NatO B wr p cap (half (l.take k)) ∧ Below B w wr
theorem NatO.app {base : Nat} {w : World} {v : Value} {l m : List Nat} (h : w.ownsRow base 51 1 v (l.length + m.length) (cells32 l ++ cells32 m)) (ok : ok32 l) (hm : ok32 m) : ∃ p c, v = .slice p (l ++ m).length c ∧ NatO base w p c (l ++ m) :=
  NatO.slice_own (l := l ++ m) (by rw [cells32_app, List.length_append]; exact h) (okB_append ok hm)

set_option maxRecDepth 100000 in
set_option maxHeartbeats 4000000 in
theorem half_any (p : Option Addr) (c : Nat) (l : List Nat) (w : World) (h : NatV w.heap.size w p c l) (hl : l.length ≤ 1048576) :
    Calls Tryz.prog 122 #[.slice p l.length c] w (HalfPost w.heap.size w (V32 l)) := by
  obtain ⟨i0, hi, hz0, hz1, hz2⟩ := info_parts info32
  have hle := h.le
  have hcap := h.cap
  have H := Lib.hid h
  clear h
  go_enter Tryz.func122, Tryz.ntmps122
  go_wp2_with fail
  go_loopw [3, 4] (fun v3 v4 wr => HalfRel w.heap.size w l v3 v4 wr) (fun _ v _ => l.length - (intOf v).toNat)
  case atStart => exact ⟨0, none, 0, Nat.zero_le _, rfl, rfl, ⟨World.ownsRow_nil _ _ _ _, okB_nil _⟩, Below.refl _ _⟩
  case round =>
    obtain ⟨k, q, cap, hk, rfl, rfl, ho, hb⟩ := hrel
    have hwB : w.heap.size ≤ wr.heap.size := hb.size
    by_cases hlt : k < l.length
    · obtain ⟨x, hx⟩ := some_get hlt
      obtain ⟨b, off, rfl, hbl, hc⟩ := (H.out.below hb).cell (by rintro rfl; simp at hlt)
      have hcl := hc k x hx
      have hxl : x < 4294967296 := ok_get H.out.ok hx
      have HO := Lib.hid (And.intro ho (And.intro hb hx))
      have hT : (half (l.take k)).length ≤ 2097152 := by rw [half_length, List.length_take]; omega
      have hown := ho.own
      obtain ⟨t, ht⟩ : ∃ t, half (l.take k) = t := ⟨_, rfl⟩
      rw [ht] at hT hown ⊢
      have hne : (Value.slice q t.length cap).ownBlock ≠ some b := fun e => by have := (hown.lt b e).1; omega
      have HT := Lib.hid ht
      clear hc hx ho hb ht
      go_wp2_with fail
      go_region_held3 (fun w' => w'.cell? ⟨b, off + k, none⟩ = some (.int .u32 (x : Int))) (first | go_keep | (go_split_ands; rw [hgrow.cell_far _ (by simp; omega) (Ne.symm hne)]; first | assumption | go_keep | (simp; assumption) | exact hcl)) ((refine step_append_lies _ (by rfl) _ _ _ (by rfl) w.heap.size 51 i0 _ 1 4 Tryz.underlying25 hi hz0 hz1 hz2 rfl (by omega) _ t.length (cells32 t) (by rfl) ((hown.alloc _).drew) ⟨wr.heap.size, 0, none⟩ 2 2 [.int .u32 ((x : Int).tmod 65536), .int .u32 (IntKind.u32.wrap ((x : Int) / 65536))] (by rfl) (by rfl) (World.news_of_block (cs := #[.int .u32 ((x : Int).tmod 65536), .int .u32 (IntKind.u32.wrap ((x : Int) / 65536))]) (t := 51) (fr := (0, 0)) (heap_alloc_new wr _)) (by simp [Value.oneCell']) (by omega) (by unfold maxLen; omega) (by omega) (by simp; omega) (wr.heap.size + 1) (by simp) ?_; intro gg cap' w1 hown1 hgrow hat hlt1))
      have e1 : (x : Int).tmod 65536 = ((x % 65536 : Nat) : Int) := by rw [Int.tmod_eq_emod_of_nonneg (by omega)]; omega
      have e2 : IntKind.u32.wrap ((x : Int) / 65536) = ((x / 65536 : Nat) : Int) := by rw [IntKind.wrap_u32]; omega
      rw [e1, e2] at hown1
      obtain ⟨q', c', hq, ho'⟩ := NatO.app (l := t) (m := [x % 65536, x / 65536]) hown1 (by rw [← HT.out]; exact half_ok32 (okB_take H.out.ok k)) (fun y hy => by simp at hy; omega)
      have hb1 : Below w.heap.size w w1 := (((HO.out.2.1).alloc hwB _).drew).grown hgrow (by simp; omega) (fun j hj => (hown.lt j hj).1)
      have HF := Lib.hid (And.intro hq (And.intro ho' hb1))
      clear hown hown1 hgrow hq ho' hb1
      go_wp2_with fail
      go_roundw
      case rel =>
        refine ⟨k + 1, q', c', by omega, ?_, by go_num, ?_, HF.out.2.2⟩
        · rw [half_take HO.out.2.2, HT.out]; exact HF.out.1
        · rw [half_take HO.out.2.2, HT.out]; exact HF.out.2.1
      case measure => simp [intOf]; omega
    · obtain rfl : k = l.length := by omega
      rw [List.take_length] at ho ⊢
      have hd : V16 (half l) = V32 l := half_val l
      have hko := half_ok H.out.ok
      have HO := Lib.hid (And.intro ho (And.intro hb (And.intro hd hko)))
      clear ho hb hd hko
      go_wp2_with (go_at_call 147; refine (cut_any _ _ (half l) _ HO.out.1.toV HO.out.2.2.2).mono ?_; rintro e w' ⟨rfl, rfl⟩)
      go_ret
      refine ⟨q, cap, ?_, ?_, HO.out.2.1⟩
      · rw [← HO.out.2.2.1]; rfl
      · rw [← HO.out.2.2.1]; exact HO.out.1.trim16 HO.out.2.2.2

theorem join_app (b : List Nat) : ∀ {k : Nat} {a : List Nat}, a.length = 2 * k → join (a ++ b) = join a ++ join b
  | 0, a, h => by obtain rfl := List.eq_nil_of_length_eq_zero (by simpa using h); rfl
  | k + 1, [], h => by simp at h
  | k + 1, [_], h => by simp at h; omega
  | k + 1, x :: y :: a, h => by
    rw [List.cons_append, List.cons_append, join, join, join_app b (k := k) (by simp at h; omega)]; rfl
theorem join_two {e : List Nat} {i x y : Nat} (hi : i % 2 = 0) (hx : e[i]? = some x) (hy : e[i + 1]? = some y) : join (e.take (i + 2)) = join (e.take i) ++ [x + 65536 * y] := by
  rw [show i + 2 = i + 1 + 1 by omega, take_snoc (get_lt hy), take_snoc (get_lt hx), List.append_assoc, join_app _ (k := i / 2) (by rw [List.length_take]; have := get_lt hx; omega), get_eq hx, get_eq hy]; rfl
theorem join_one {e : List Nat} {i x : Nat} (hi : i % 2 = 0) (hx : e[i]? = some x) (hn : e.length = i + 1) : join (e.take (i + 2)) = join (e.take i) ++ [x] := by
  rw [List.take_of_length_le (by omega)]
  have h : e = e.take i ++ [x] := by
    have := take_snoc (get_lt hx)
    rw [List.take_of_length_le (by omega), get_eq hx] at this
    exact this
  rw [h, join_app _ (k := i / 2) (by rw [List.length_take]; omega), List.take_left' (by rw [List.length_take]; omega)]; rfl
theorem join_len : ∀ e : List Nat, (join e).length ≤ e.length
  | [] => Nat.le_refl _
  | [_] => Nat.le_refl _
  | _ :: _ :: e => by
    have := join_len e
    simp [join]; omega

def WholeRel (B : Nat) (w : World) (e : List Nat) (v3 v4 : Value) (wr : World) : Prop :=
  ∃ (i : Nat) (p : Option Addr) (cap : Nat), i ≤ e.length + 1 ∧ i % 2 = 0 ∧ v3 = .slice p (join (e.take i)).length cap ∧ v4 = .int .i64 (i : Int) ∧ NatO B wr p cap (join (e.take i)) ∧ Below B w wr

set_option maxRecDepth 100000 in
set_option maxHeartbeats 4000000 in
theorem whole_any (p : Option Addr) (c : Nat) (l : List Nat) (w : World) (h : NatV w.heap.size w p c l) (hko : okB 65536 l) (hl : l.length ≤ 4194304) :
    Calls Tryz.prog 123 #[.slice p l.length c] w (RaisePost w.heap.size w (V16 l)) := by
  obtain ⟨i0, hi, hz0, hz1, hz2⟩ := info_parts info32
  have hle := h.le
  have hcap := h.cap
  obtain ⟨n, hn⟩ : ∃ n, V16 l = n := ⟨_, rfl⟩
  obtain ⟨e, he⟩ : ∃ e, D16 n = e := ⟨_, rfl⟩
  have hee : e.length ≤ l.length := by rw [← he, ← hn]; exact D16_le hko
  have hV : NatV w.heap.size w p c e := by
    obtain ⟨k, _, e1⟩ := trim16 hko
    rw [← he, ← hn, ← e1]; exact h.take k
  have hek : okB 65536 e := by rw [← he]; exact D16_ok n
  have hej : join e = D32 n := by rw [← he]; exact join_digs n
  have H := Lib.hid (And.intro h hko)
  have HE := Lib.hid (And.intro hV (And.intro hek hej))
  have hel : (D16 (V16 l)).length = e.length := by rw [hn, he]
  have HL := Lib.hid hel
  clear h hko hV hek hej he
  rw [hn]
  clear hn hel
  go_enter Tryz.func123, Tryz.ntmps123
  go_wp2_with (go_at_call 147; refine (cut_any _ _ l _ H.out.1 H.out.2).mono ?_; rintro e' w' ⟨rfl, rfl⟩)
  rw [HL.out]
  go_loopw [3, 4] (fun v3 v4 wr => WholeRel w.heap.size w e v3 v4 wr) (fun _ v _ => e.length + 1 - (intOf v).toNat)
  case atStart => exact ⟨0, none, 0, Nat.zero_le _, rfl, rfl, rfl, ⟨World.ownsRow_nil _ _ _ _, okB_nil _⟩, Below.refl _ _⟩
  case round =>
    obtain ⟨i, q, cap, hk, hev, rfl, rfl, ho, hb⟩ := hrel
    have hwB : w.heap.size ≤ wr.heap.size := hb.size
    by_cases hlt : i < e.length
    · obtain ⟨x, hx⟩ := some_get hlt
      obtain ⟨b, off, rfl, hbl, hc⟩ := (HE.out.1.below hb).cell (by rintro rfl; simp at hlt)
      have hcl := hc i x hx
      have hxl : x < 65536 := ok_get HE.out.2.1 hx
      have hT : (join (e.take i)).length ≤ 4194304 := by have := join_len (e.take i); rw [List.length_take] at this; omega
      have hown := ho.own
      obtain ⟨t, ht⟩ : ∃ t, join (e.take i) = t := ⟨_, rfl⟩
      have hot := ho.ok
      rw [ht] at hT hown hot ⊢
      have HT := Lib.hid (And.intro ht (And.intro hb (And.intro hot hev)))
      by_cases hlt2 : i + 1 < e.length
      · obtain ⟨y, hy⟩ := some_get hlt2
        have hcl2 := hc (i + 1) y hy
        have hyl : y < 65536 := ok_get HE.out.2.1 hy
        have HX := Lib.hid (join_two hev hx hy)
        clear hc hx hy ho hb ht hot hev
        go_wp2_with (at_builtin; refine wpList_append_own _ rfl _ _ 26 rfl w.heap.size 51 i0 (.int .u32 0) 1 4 Tryz.underlying26 hi hz0 hz1 hz2 rfl (by decide) _ t.length (cells32 t) rfl (hown.alloc _) ⟨wr.heap.size, 0, none⟩ 1 1 [.int .u32 ((x : Int) + 65536 * (y : Int))] rfl rfl (cell_one_new _ _ _) ?cd2 ?cd3 ?cd4 ?cd5 ?_)
        case cd2 => intro u hu; simp at hu; subst hu; rfl
        case cd3 => unfold maxLen; omega
        case cd4 => omega
        case cd5 => simp; omega
        intro v' w1 hown' hgrow _
        rw [show ((x : Int) + 65536 * (y : Int)) = ((x + 65536 * y : Nat) : Int) by omega] at hown'
        obtain ⟨q', cap', rfl, ho1⟩ := NatO.snoc (x := x + 65536 * y) hown' HT.out.2.2.1 (by omega)
        have hb1 : Below w.heap.size w w1 := (HT.out.2.1.alloc hwB _).grown hgrow (by simp; omega) (fun j hj => (hown.lt j hj).1)
        have HO := Lib.hid (And.intro ho1 hb1)
        clear hown hown' hgrow ho1 hb1
        go_wp2_with fail
        go_roundw
        case rel =>
          refine ⟨i + 2, q', cap', by omega, by have := HT.out.2.2.2; omega, ?_, by go_num, ?_, HO.out.2⟩
          · rw [HX.out, HT.out.1]
          · rw [HX.out, HT.out.1]; exact HO.out.1
        case measure => simp [intOf]; omega
      · have HX := Lib.hid (join_one hev hx (show e.length = i + 1 by omega))
        clear hc hx ho hb ht hot hev
        go_wp2_with (at_builtin; refine wpList_append_own _ rfl _ _ 26 rfl w.heap.size 51 i0 (.int .u32 0) 1 4 Tryz.underlying26 hi hz0 hz1 hz2 rfl (by decide) _ t.length (cells32 t) rfl (hown.alloc _) ⟨wr.heap.size, 0, none⟩ 1 1 [.int .u32 ((x : Int))] rfl rfl (cell_one_new _ _ _) ?ce2 ?ce3 ?ce4 ?ce5 ?_)
        case ce2 => intro u hu; simp at hu; subst hu; rfl
        case ce3 => unfold maxLen; omega
        case ce4 => omega
        case ce5 => simp; omega
        intro v' w1 hown' hgrow _
        obtain ⟨q', cap', rfl, ho1⟩ := NatO.snoc (x := x) hown' HT.out.2.2.1 (by omega)
        have hb1 : Below w.heap.size w w1 := (HT.out.2.1.alloc hwB _).grown hgrow (by simp; omega) (fun j hj => (hown.lt j hj).1)
        have HO := Lib.hid (And.intro ho1 hb1)
        clear hown hown' hgrow ho1 hb1
        go_wp2_with fail
        go_roundw
        case rel =>
          refine ⟨i + 2, q', cap', by omega, by have := HT.out.2.2.2; omega, ?_, by go_num, ?_, HO.out.2⟩
          · rw [HX.out, HT.out.1]
          · rw [HX.out, HT.out.1]; exact HO.out.1
        case measure => simp [intOf]; omega
    · have hd : join (e.take i) = D32 n := by rw [List.take_of_length_le (by omega)]; exact HE.out.2.2
      rw [hd] at ho ⊢
      have HO := Lib.hid (And.intro ho hb)
      clear ho hb hd
      go_wp2_with fail
      go_ret
      exact ⟨q, cap, rfl, HO.out.1, HO.out.2⟩
end Go.Proofs.YtfgoflaeclfggaaGreatDoor
end
section
namespace Go.Proofs.YtfgoflaeclfggaaGreatDoor
open Go.RowKit NatM

theorem madeCells_list (v : Value) (n : Nat) : (madeCells #[v] n).toList = List.replicate n v := by
  unfold madeCells
  rw [Array.toList_map, Array.toList_range]
  apply List.ext_getElem
  · simp
  · intro i h1 h2
    simp [Nat.mod_one]
theorem make32 (n : Nat) (hn : n ≤ 1099511627776) (w : World) :
    (Instr.makeSlice 26 (.int .i64 (n : Int)) (.int .i64 (n : Int))).run Tryz.prog w = .ok (.slice (some ⟨w.heap.size, 0, none⟩) n n) (w.alloc (.cells (madeCells #[.int .u32 0] n) 51)) := by
  obtain ⟨i0, hi, hz0, hz1, hz2⟩ := info_parts info32
  have h := run_make (P := Tryz.prog) w 26 51 i0 (.int .u32 0) Tryz.underlying26 hi hz0 .i64 .i64 n n (by omega) (by omega) (by rw [hz2]; omega) (by omega)
  rw [hz1] at h
  simpa [Value.cells] using h
theorem NatO.made (w : World) (n : Nat) (hn : n ≤ 1099511627776) : NatO w.heap.size (w.alloc (.cells (madeCells #[.int .u32 0] n) 51)) (some ⟨w.heap.size, 0, none⟩) n (List.replicate n 0) := by
  refine ⟨⟨by simp [cells32], Or.inr ⟨w.heap.size, n, madeCells #[.int .u32 0] n, by rw [List.length_replicate], Nat.le_refl _, heap_newN _ _, by rw [List.length_replicate]; exact Nat.le_refl _, by unfold maxLen; omega, by rw [size_madeCells, Nat.mul_one], ?_⟩⟩, okB_replicate (by omega) _⟩
  rw [madeCells_list, List.length_replicate, Nat.mul_one, List.take_of_length_le (by simp)]
  simp [cells32]

def MI (a b : List Nat) (i j x c : Nat) (P : List Nat) : Prop := MInv 4294967296 a b i j x c P
/-- What the outer loop of Mul hands on. -/
def MulRel (w : World) (a b : List Nat) (g : Nat) (v : Value) (wr : World) : Prop :=
  ∃ (i : Nat) (P : List Nat), i ≤ a.length ∧ v = .int .i64 (i : Int) ∧ MI a b i 0 0 0 P ∧ NatO w.heap.size wr (some ⟨g, 0, none⟩) P.length P ∧ Below w.heap.size w wr
/-- What the inner loop of Mul hands on. -/
def MulRel2 (w : World) (a b : List Nat) (g i x : Nat) (v8 v30 : Value) (wr : World) : Prop :=
  ∃ (j c : Nat) (P : List Nat), j ≤ b.length ∧ v8 = .int .u64 (c : Int) ∧ v30 = .int .i64 (j : Int) ∧ MI a b i j x c P ∧ NatO w.heap.size wr (some ⟨g, 0, none⟩) P.length P ∧ Below w.heap.size w wr

set_option maxRecDepth 100000 in
set_option maxHeartbeats 4000000 in
theorem mul_any (p q : Option Addr) (c d : Nat) (l m : List Nat) (w : World) (h : NatV w.heap.size w p c l) (k : NatV w.heap.size w q d m) (hl : l.length ≤ 100000) (hm : m.length ≤ 100000) :
    Calls Tryz.prog 72 #[.slice p l.length c, .slice q m.length d] w (NatPost w (V32 l * V32 m)) := by
  have H := Lib.hid (And.intro h k)
  have HT := Lib.hid (And.intro h.trim k.trim)
  have hle := HT.out.1.le
  have hdle := HT.out.2.le
  have hal : (D32 (V32 l)).length ≤ 100000 := Nat.le_trans (D32_le h.ok) hl
  have hbl : (D32 (V32 m)).length ≤ 100000 := Nat.le_trans (D32_le k.ok) hm
  have hva : V32 (D32 (V32 l)) = V32 l := V32_D32 _
  have hvb : V32 (D32 (V32 m)) = V32 m := V32_D32 _
  clear h k
  go_enter Tryz.func72, Tryz.ntmps72
  go_wp2_with fail
  refine (trim_any p c l _ H.out.1).mono ?_
  rintro e w' ⟨rfl, rfl⟩
  go_wp2_with fail
  refine (trim_any q d m _ H.out.2).mono ?_
  rintro e w' ⟨rfl, rfl⟩
  obtain ⟨a, ha⟩ : ∃ a, D32 (V32 l) = a := ⟨_, rfl⟩
  obtain ⟨b, hb⟩ : ∃ b, D32 (V32 m) = b := ⟨_, rfl⟩
  rw [ha] at HT hle hva hal ⊢
  rw [hb] at HT hdle hvb hbl ⊢
  have HV := Lib.hid (And.intro hva hvb)
  clear ha hb hva hvb
  obtain ⟨n, hn⟩ : ∃ n, n = a.length + b.length := ⟨_, rfl⟩
  have hmk := make32 n (by omega)
  have hn2 : (a.length : Int) + (b.length : Int) = (n : Int) := by omega
  have HN := Lib.hid hn
  have hnb : n ≤ 200000 := by omega
  clear hn
  go_wp2_with fail
  have HN2 := Lib.hid hn2
  clear hn2 hmk
  go_loopw [23] (fun v wr => MulRel w a b w.heap.size v wr) (fun i _ => a.length - (intOf i).toNat)
  case atStart =>
    have h0 := NatO.made w n (by omega)
    refine ⟨0, List.replicate n 0, Nat.zero_le _, rfl, ?_, by rw [List.length_replicate]; exact h0, (Below.refl _ _).alloc (Nat.le_refl _) _⟩
    rw [HN.out]
    exact MInv.start (by omega) a b 0
  case round =>
    obtain ⟨i, P, hi, rfl, hM, ho, hb⟩ := hrel
    have hPl : P.length = n := by rw [HN.out]; exact hM.len
    have HP := Lib.hid (And.intro hPl (And.intro hM (And.intro ho hb)))
    obtain ⟨wo, rfl⟩ : ∃ wo : World, wo = wr := ⟨_, rfl⟩
    by_cases hlt : i < a.length
    · obtain ⟨x, hx⟩ := some_get hlt
      obtain ⟨ba, off, rfl, hba, hca⟩ := (HT.out.1.below hb).cell (List.length_pos_iff.1 (by omega))
      have hcx := hca i x hx
      have hxl : x < 4294967296 := ok_get HT.out.1.ok hx
      have HX := Lib.hid hx
      clear hca hx hPl hM ho hb
      go_wp2_with fail
      go_loopw [8, 30] (fun v8 v30 wr => MulRel2 w a b w.heap.size i x v8 v30 wr) (fun _ j _ => b.length - (intOf j).toNat)
      case atStart => exact ⟨0, 0, P, Nat.zero_le _, rfl, rfl, ⟨HP.out.2.1.ok, HP.out.2.1.len, by omega, HP.out.2.1.zero, by have := HP.out.2.1.val; simpa [valB] using this⟩, HP.out.2.2.1, HP.out.2.2.2⟩
      case round =>
        obtain ⟨j, c, P, hj, rfl, rfl, hM, ho, hb⟩ := hrel
        have hPl : P.length = n := by rw [HN.out]; exact hM.len
        have hcl : c < 4294967296 := hM.car
        by_cases hjl : j < b.length
        · obtain ⟨y, hy⟩ := some_get hjl
          obtain ⟨bb, off', rfl, hbb, hcb⟩ := (HT.out.2.below hb).cell (List.length_pos_iff.1 (by omega))
          have hcy := hcb j y hy
          have hyl : y < 4294967296 := ok_get HT.out.2.ok hy
          have hn0 : n = a.length + b.length := HN.out
          obtain ⟨g, hg, hgb, hgl, hcells, hfrz⟩ := ho.shape (by omega)
          obtain rfl : w.heap.size = g := by simpa using hg
          obtain ⟨z, hz⟩ := some_get (l := P) (k := i + j) (by omega)
          have hcz := hcells (i + j) z hz
          have hfz := hfrz (i + j)
          have hzl : z < 4294967296 := ok_get ho.ok hz
          have hst := MInv.step hM hxl HT.out.2.ok hjl hy hz
          have hxy : (x : Int) * (y : Int) ≤ 18446744065119617025 := by
            have h1 : x * y ≤ 4294967295 * 4294967295 := Nat.mul_le_mul (by omega) (by omega)
            have h2 : ((x * y : Nat) : Int) ≤ 18446744065119617025 := by omega
            rwa [Int.natCast_mul] at h2
          have hxy0 : 0 ≤ (x : Int) * (y : Int) := Int.mul_nonneg (by omega) (by omega)
          have hijn : i + j < n := by omega
          have hos := NatO.store ho (i + j) ((c + (x * y + z)) % 4294967296) (Nat.mod_lt _ (by omega))
          have HS := Lib.hid (And.intro hst (And.intro hos (And.intro hb hPl)))
          have HPL := Lib.hid hPl
          clear hst hos hb hPl hn0 hcb hcells hfrz hy hz hM ho hg
          go_wp2_with fail
          go_roundw
          case rel =>
            refine ⟨j + 1, (c + (x * y + z)) / 4294967296, P.set (i + j) ((c + (x * y + z)) % 4294967296), by omega, ?_, by go_num, HS.out.1, ?_, HS.out.2.2.1.setCell (Nat.le_refl _) _⟩
            · rfl
            · rw [List.length_set]; exact HS.out.2.1
          case measure => simp [intOf]; omega
        · obtain rfl : j = b.length := by omega
          have hn0 : n = a.length + b.length := HN.out
          obtain ⟨g, hg, hgb, hgl, hcells, hfrz⟩ := ho.shape (by omega)
          obtain rfl : w.heap.size = g := by simpa using hg
          obtain ⟨z, hz⟩ := some_get (l := P) (k := i + b.length) (by omega)
          have hcz := hcells (i + b.length) z hz
          have hfz := hfrz (i + b.length)
          have hst := MInv.row hM hlt HX.out 0
          have hos := NatO.store ho (i + b.length) c hcl
          have HS := Lib.hid (And.intro hst (And.intro hos hb))
          have hijn : i + b.length < n := by omega
          clear hst hos hb hPl hn0 hcells hfrz hz hM ho hg
          go_wp2_with fail
          go_roundw
          case rel =>
            refine ⟨i + 1, P.set (i + b.length) c, by omega, by go_num, HS.out.1, ?_, HS.out.2.2.setCell (Nat.le_refl _) _⟩
            rw [List.length_set]; exact HS.out.2.1
          case measure => simp [intOf]; omega
    · obtain rfl : i = a.length := by omega
      have hv : V32 P = V32 l * V32 m := by
        rw [← HV.out.1, ← HV.out.2]
        exact HP.out.2.1.done rfl
      have hot := ho.trim
      have ht := trim_any _ _ P wo ho.toV
      rw [hPl] at ht hot
      rw [hv] at ht hot
      have HQ := Lib.hid (And.intro hot hb)
      clear hot hPl hM ho hb hv
      go_wp2_with fail
      refine ht.mono ?_
      clear ht
      rintro e w' ⟨rfl, rfl⟩
      go_wp2_with fail
      go_ret
      exact ⟨_, _, rfl, HQ.out.1, HQ.out.2⟩
end Go.Proofs.YtfgoflaeclfggaaGreatDoor
end
section
namespace Go.Proofs.YtfgoflaeclfggaaGreatDoor
open Go.RowKit NatM

theorem or_split (r x : Nat) (hr : r < 4294967296) (hx : x < 4294967296) : bits .or .u64 ((r : Int) * 4294967296) (x : Int) = ((r * 4294967296 + x : Nat) : Int) := by
  have h := u64_or_nat (r * 4294967296) x (by omega) (by omega)
  rw [Int.natCast_mul] at h
  have e : r * 4294967296 ||| x = r * 4294967296 + x := by
    have := Nat.two_pow_add_eq_or_of_lt (i := 32) (b := x) hx r
    rw [Nat.mul_comm r]
    exact this.symm
  rw [e] at h
  exact h
set_option maxRecDepth 100000 in
theorem div32_any (r x d : Nat) (w : World) (hr : r < d) (hx : x < 4294967296) (hd : d < 4294967296) :
    Calls Tryz.prog 148 #[.int .u32 (r : Int), .int .u32 (x : Int), .int .u32 (d : Int)] w fun e w' => e = .returned (.tuple #[.int .u32 (((r * 4294967296 + x) / d : Nat) : Int), .int .u32 (((r * 4294967296 + x) % d : Nat) : Int)]) ∧ ∃ n, w' = w.drewN n := by
  have hd0 : ((d : Int) != 0) = true := by simp; omega
  have hle : decide (d ≤ r) = false := by simp; omega
  have hor := or_split r x (by omega) hx
  have hq := div_lt_base (B := 4294967296) hr hx
  have hm : (r * 4294967296 + x) % d < d := Nat.mod_lt _ (by omega)
  obtain ⟨z, hz⟩ : ∃ z, r * 4294967296 + x = z := ⟨_, rfl⟩
  rw [hz] at hor hq hm ⊢
  have hzz : z < 18446744073709551616 := by omega
  have hd1 : ¬ ((d : Int) = 0) := by omega
  have hd2 : ((d : Int) == 0) = false := by simp; omega
  have hb0 : 0 ≤ (z : Int) / (d : Int) := Int.ediv_nonneg (by omega) (by omega)
  have hb1 : (z : Int) / (d : Int) < 4294967296 := by
    have h : ((z / d : Nat) : Int) < 4294967296 := by omega
    exact h
  have hm0 : 0 ≤ (z : Int) % (d : Int) := Int.emod_nonneg _ hd1
  have hm1 : (z : Int) % (d : Int) < 4294967296 := by
    have h : ((z % d : Nat) : Int) < 4294967296 := by omega
    exact h
  have hw1 : IntKind.u64.wrap ((z : Int) / (d : Int)) = (z : Int) / (d : Int) := by rw [IntKind.wrap_u64]; exact Int.emod_eq_of_lt hb0 (Int.lt_trans hb1 (by decide))
  have hw2 : (z : Int) / (d : Int) % 4294967296 = (z : Int) / (d : Int) := Int.emod_eq_of_lt hb0 hb1
  have hw3 : (z : Int) % (d : Int) % 4294967296 = (z : Int) % (d : Int) := Int.emod_eq_of_lt hm0 hm1
  clear hz
  go_enter Tryz.func148, Tryz.ntmps148
  go_wp2_with fail
  go_quiet (fail)
  go_wp2_with fail
  go_ret2
  exact ⟨rfl, _, rfl⟩
theorem div32_tells (r x d : Nat) (w : World) (hr : r < d) (hx : x < 4294967296) (hd : d < 4294967296) :
    Calls Tryz.prog 148 #[.int .u32 (r : Int), .int .u32 (x : Int), .int .u32 (d : Int)] w (Tells (.tuple #[.int .u32 (((r * 4294967296 + x) / d : Nat) : Int), .int .u32 (((r * 4294967296 + x) % d : Nat) : Int)]) w) :=
  (div32_any r x d w hr hx hd).mono fun _ _ ⟨he, n, hw⟩ => ⟨he, by rw [hw]; exact below_drewN (Below.refl _ _) n⟩

/-- only the slice's own block, and what is new, has changed -/
def Only (p : Option Addr) (w w' : World) : Prop := w.grownBy w' (p.map (·.block))
theorem Only.refl (p : Option Addr) (w : World) : Only p w w := World.grownBy.refl w _
theorem only_of_below {a w : World} (h : Below a.heap.size a w) (row : Option Nat) : a.grownBy w row := ⟨h.os, h.tape, h.output, h.size, fun i hi _ => h.block i hi⟩
theorem Only.next {p : Option Addr} {a w w' : World} (h : Only p a w) (hb : Below w.heap.size w w') : Only p a w' := World.grownBy.trans h (only_of_below hb _)
theorem Only.setCell {g : Nat} {a w : World} (h : Only (some ⟨g, 0, none⟩) a w) (k : Nat) (u : Value) : Only (some ⟨g, 0, none⟩) a (w.setCell ⟨g, k, none⟩ u) :=
  ⟨h.os, h.tape, h.output, by simpa [World.setCell] using h.size, fun i hi hne => (Below.heap_setCell w ⟨g, k, none⟩ u i (by
    rintro rfl
    exact hne rfl)).trans (h.block i hi hne)⟩
theorem Only.below {p : Option Addr} {a w : World} {B : Nat} (h : Only p a w) (hB : B ≤ a.heap.size) (hp : ∀ x, p = some x → B ≤ x.block) : Below B a w :=
  ⟨h.os, h.tape, h.output, h.size, fun k hk => h.block k (by omega) (by
    rcases p with _ | x
    · simp
    · intro e
      have := hp x rfl
      have e2 := Option.some.inj e
      simp at e2
      omega)⟩

def VI (a : List Nat) (d k r : Nat) (t : List Nat) : Prop := VInv 4294967296 a d k r t
def DivRel (B : Nat) (w : World) (p : Option Addr) (c : Nat) (a : List Nat) (d : Nat) (v5 v6 : Value) (wr : World) : Prop :=
  ∃ (k r : Nat) (t : List Nat), k ≤ a.length ∧ v6 = .int .i64 ((k : Int) - 1) ∧ v5 = .int .u32 (r : Int) ∧ VI a d k r t ∧ NatO B wr p c t ∧ Only p w wr
/-- divide: the quotient stands where the number stood -/
def DivPost (B : Nat) (w : World) (p : Option Addr) (c : Nat) (a : List Nat) (d : Nat) (e : Ending) (w' : World) : Prop :=
  e = .returned (.int .u32 ((V32 a % d : Nat) : Int)) ∧ (∃ t, V32 t = V32 a / d ∧ t.length = a.length ∧ NatO B w' p c t) ∧ Only p w w'

set_option maxRecDepth 100000 in
set_option maxHeartbeats 1000000 in
theorem divide_any {B : Nat} (p : Option Addr) (c : Nat) (a : List Nat) (d : Nat) (w : World) (h : NatO B w p c a) (hd : 0 < d) (hdl : d < 4294967296) :
    Calls Tryz.prog 127 #[.slice p a.length c, .int .u32 (d : Int)] w (DivPost B w p c a d) := by
  have hcap := h.toV.cap
  have hle := h.toV.le
  unfold maxLen at hcap
  have H := Lib.hid h
  clear h
  go_enter Tryz.func127, Tryz.ntmps127
  go_wp2_with fail
  go_loopw [5, 6] (fun v5 v6 wr => DivRel B w p c a d v5 v6 wr) (fun _ v _ => (intOf v + 1).toNat)
  case atStart => exact ⟨a.length, 0, a, Nat.le_refl _, rfl, rfl, VInv.start H.out.ok hd, H.out, Only.refl _ _⟩
  case round =>
    obtain ⟨k, r, t, hk, rfl, rfl, hV, ho, hb⟩ := hrel
    have hr : r < d := hV.rem
    have HV := Lib.hid (And.intro hV (And.intro ho hb))
    rcases Nat.eq_zero_or_pos k with rfl | hk0
    · clear hV ho hb
      go_wp2_with fail
      go_ret
      obtain ⟨h1, h2⟩ := HV.out.1.done
      exact ⟨by rw [show V32 a % d = r from h2.symm]; rfl, ⟨t, h1, HV.out.1.len, HV.out.2.1⟩, HV.out.2.2⟩
    · obtain ⟨j, rfl⟩ : ∃ j, k = j + 1 := ⟨k - 1, by omega⟩
      have e1 : (((j + 1 : Nat) : Int) - 1) = (j : Int) := by omega
      rw [e1]
      have hja : j < a.length := by omega
      have hjt : j < t.length := by have : t.length = a.length := hV.len; omega
      obtain ⟨x, hx⟩ := some_get hja
      have hxt : t[j]? = some x := (get_of_take hV.rest (by omega)).trans hx
      obtain ⟨g, rfl, hg, hgl, hcells, hfrz⟩ := ho.shape (by omega)
      have hcx := hcells j x hxt
      have hxl : x < 4294967296 := ok_get ho.ok hxt
      have hst := VInv.step H.out.ok hV hx
      have HS := Lib.hid (And.intro hst hxt)
      clear hst hxt hx hcells hfrz hV ho e1 hjt
      go_wp2_with fail
      refine (div32_tells r x d _ hr hxl hdl).mono ?_
      rintro e w1 ⟨rfl, hb1⟩
      have ho1 := HV.out.2.1.next hb1
      have hbb := hb.next hb1
      obtain ⟨g', hg', _, _, hcells1, hfrz1⟩ := ho1.shape (Nat.lt_of_le_of_lt (Nat.zero_le _) (get_lt HS.out.2))
      obtain rfl : g = g' := by simpa using hg'
      have hcx1 := hcells1 j x HS.out.2
      have hfx1 := hfrz1 j
      have hos := NatO.store ho1 j ((r * 4294967296 + x) / d) (div_lt_base hr hxl)
      have HF := Lib.hid (And.intro hos (hbb.setCell j (.int .u32 (((r * 4294967296 + x) / d : Nat) : Int))))
      clear hos hbb hcells1 hfrz1 ho1 hb hb1 hg'
      go_wp2_with fail
      go_roundw
      case rel =>
        exact ⟨j, (r * 4294967296 + x) % d, t.set j ((r * 4294967296 + x) / d), by omega, rfl, rfl, HS.out.1, HF.out.1, HF.out.2⟩
      case measure => simp [intOf]
def EI (a : List Nat) (m c0 i c : Nat) (t : List Nat) : Prop := EInv 4294967296 a m c0 i c t
def ExtRel (B : Nat) (w : World) (p : Option Addr) (cap : Nat) (a : List Nat) (m c0 : Nat) (v7 v14 : Value) (wr : World) : Prop :=
  ∃ (i c : Nat) (t : List Nat), i ≤ a.length ∧ v14 = .int .i64 (i : Int) ∧ v7 = .int .u64 (c : Int) ∧ EI a m c0 i c t ∧ NatO B wr p cap t ∧ Below B w wr
def ExtPost (B : Nat) (w : World) (a : List Nat) (m c0 : Nat) (e : Ending) (w' : World) : Prop :=
  ∃ p' c' t, e = .returned (.slice p' t.length c') ∧ V32 t = V32 a * m + c0 ∧ t.length ≤ a.length + 1 ∧ (nrm a → 1 ≤ m → nrm t) ∧ NatO B w' p' c' t ∧ Below B w w'

set_option maxRecDepth 100000 in
set_option maxHeartbeats 1000000 in
theorem extend_any {B : Nat} (p : Option Addr) (cap : Nat) (a : List Nat) (m c0 : Nat) (w : World) (hB : B ≤ w.heap.size) (h : NatO B w p cap a) (hm : m < 4294967296) (hc0 : c0 < 4294967296) (hal : a.length ≤ 1048576) :
    Calls Tryz.prog 124 #[.slice p a.length cap, .int .u32 (m : Int), .int .u32 (c0 : Int)] w (ExtPost B w a m c0) := by
  obtain ⟨i0, hi, hz0, hz1, hz2⟩ := info_parts info32
  have H := Lib.hid h
  clear h
  go_enter Tryz.func124, Tryz.ntmps124
  go_wp2_with fail
  go_loopw [7, 14] (fun v7 v14 wr => ExtRel B w p cap a m c0 v7 v14 wr) (fun _ v _ => a.length - (intOf v).toNat)
  case atStart => exact ⟨0, c0, a, Nat.zero_le _, rfl, rfl, EInv.start H.out.ok m c0 hc0, H.out, Below.refl _ _⟩
  case round =>
    obtain ⟨i, c, t, hi', rfl, rfl, hE, ho, hb⟩ := hrel
    have hcl : c < 4294967296 := hE.car
    have htl : t.length = a.length := hE.len
    have hwB : B ≤ wr.heap.size := Nat.le_trans hB hb.size
    have HV := Lib.hid (And.intro hE (And.intro ho hb))
    have HTL := Lib.hid htl
    by_cases hlt : i < a.length
    · obtain ⟨x, hx⟩ := some_get hlt
      have hxt : t[i]? = some x := (get_of_drop hE.rest).trans hx
      obtain ⟨g, rfl, hg, hgl, hcells, hfrz⟩ := ho.shape (by omega)
      have hcx := hcells i x hxt
      have hfx := hfrz i
      have hxl : x < 4294967296 := ok_get ho.ok hxt
      have hst := EInv.step H.out.ok hm hE hx
      have hxy : (x : Int) * (m : Int) ≤ 18446744065119617025 := by
        have h1 : x * m ≤ 4294967295 * 4294967295 := Nat.mul_le_mul (by omega) (by omega)
        have h2 : ((x * m : Nat) : Int) ≤ 18446744065119617025 := by omega
        rwa [Int.natCast_mul] at h2
      have hxy0 : 0 ≤ (x : Int) * (m : Int) := Int.mul_nonneg (by omega) (by omega)
      have hos := NatO.store ho i ((c + x * m) % 4294967296) (Nat.mod_lt _ (by omega))
      have HS := Lib.hid (And.intro hst (And.intro hos (hb.setCell (p := ⟨g, i, none⟩) hg (.int .u32 (((c + x * m) % 4294967296 : Nat) : Int)))))
      clear hst hos hxt hx hcells hfrz hE ho hb htl
      go_wp2_with fail
      go_roundw
      case rel =>
        exact ⟨i + 1, (c + x * m) / 4294967296, t.set i ((c + x * m) % 4294967296), by omega, by go_num, rfl, HS.out.1, HS.out.2.1, HS.out.2.2⟩
      case measure => simp [intOf]; omega
    · obtain rfl : i = a.length := by omega
      have hown := ho.own
      rw [htl] at hown
      clear hE ho htl hb
      by_cases hc : c = 0
      · subst hc
        go_wp2_with fail
        go_ret
        refine ⟨p, cap, t, ?_, HV.out.1.done0, by rw [HTL.out]; omega, fun h1 h2 => HV.out.1.nrm0 (by omega) h1 h2, HV.out.2.1, HV.out.2.2⟩
        rw [HTL.out]; rfl
      · have hc1 : ((c : Int) != 0) = true := by simp; omega
        have hlow : (c : Int) % 4294967296 = (c : Int) := Int.emod_eq_of_lt (by omega) (by omega)
        go_wp2_with (at_builtin; refine wpList_append_own _ rfl _ _ 26 rfl B 51 i0 (.int .u32 0) 1 4 Tryz.underlying26 hi hz0 hz1 hz2 rfl (by decide) _ _ _ rfl (hown.alloc _) ⟨wr.heap.size, 0, none⟩ 1 1 [.int .u32 (c : Int)] rfl rfl (cell_one_new _ _ _) ?c2 ?c3 ?c4 ?c5 ?_)
        case c2 => intro u hu; simp at hu; subst hu; rfl
        case c3 => unfold maxLen; omega
        case c4 => omega
        case c5 => simp; omega
        intro v' w1 hown' hgrow _
        rw [← HTL.out] at hown'
        obtain ⟨p1, c1, rfl, ho1⟩ := NatO.snoc (x := c) hown' HV.out.2.1.ok hcl
        have hb1 : Below B w w1 := (HV.out.2.2.alloc hwB _).grown hgrow (by simp; omega) (fun j hj => (hown.lt j hj).1)
        have HO := Lib.hid (And.intro ho1 hb1)
        clear hown hown' hgrow ho1 hb1
        go_wp2_with fail
        go_ret
        refine ⟨p1, c1, t ++ [c], rfl, HV.out.1.done, ?_, fun _ _ => nrm_snoc hc, HO.out.1, HO.out.2⟩
        rw [List.length_append, List.length_singleton, HTL.out]
        exact Nat.le_refl _

/-- slices.Clone of limbs: nil stays nil, else new memory -/
def ClonePost (w : World) (l : List Nat) (e : Ending) (w' : World) : Prop :=
  ∃ p c, e = .returned (.slice p l.length c) ∧ NatO w.heap.size w' p c l ∧ Below w.heap.size w w'
set_option maxRecDepth 100000 in
set_option maxHeartbeats 1000000 in
theorem clone_any (p : Option Addr) (cap : Nat) (l : List Nat) (w : World) (h : NatV w.heap.size w p cap l) (hl : l.length ≤ 1048576) :
    Calls Tryz.prog 126 #[.slice p l.length cap] w (ClonePost w l) := by
  obtain ⟨i0, hi, hz0, hz1, hz2⟩ := info_parts info32
  have H := Lib.hid h
  have hle := h.le
  have hnn := fun (W : World) (a : Option Addr) (n c : Nat) => Lib.run_eql_slice_nil (P := Tryz.prog) W 26 51 a n c 0 0 Tryz.underlying26
  rcases p with _ | a
  · have hc := h.nil rfl
    subst hc
    have hl0 : l = [] := List.eq_nil_of_length_eq_zero (by omega)
    subst hl0
    clear h
    show Calls Tryz.prog 126 #[.slice none 0 0] w (ClonePost w [])
    go_enter Tryz.func126, Tryz.ntmps126
    go_wp2_with fail
    go_ret
    exact ⟨none, 0, rfl, NatO.nothing _ _, Below.refl _ _⟩
  · rcases Nat.eq_zero_or_pos l.length with hl0 | hl0
    · obtain rfl : l = [] := List.eq_nil_of_length_eq_zero hl0
      clear h
      show Calls Tryz.prog 126 #[.slice (some a) 0 cap] w (ClonePost w [])
      go_enter Tryz.func126, Tryz.ntmps126
      go_wp2_with (at_builtin; refine wpList_append_own _ rfl _ _ 26 rfl w.heap.size 51 i0 (.int .u32 0) 1 4 Tryz.underlying26 hi hz0 hz1 hz2 rfl (by decide) _ 0 [] rfl (World.ownsRow_made w #[] 0 (Nat.le_refl _) (Nat.zero_le _) rfl) a 0 cap [] rfl rfl ?c1 ?c2 ?c3 ?c4 ?c5 ?_)
      case c1 => intro j u hj; simp at hj
      case c2 => intro u hu; simp at hu
      case c3 => unfold maxLen; omega
      case c4 => omega
      case c5 => simp
      intro v' w1 hown' hgrow _
      obtain ⟨p1, c1, rfl, ho1⟩ := NatO.slice_own (l := []) hown' (okB_nil _)
      have hb1 : Below w.heap.size w w1 := ((Below.refl _ _).alloc (Nat.le_refl _) _).grown hgrow (by simp) (fun j hj => by have := Option.some.inj hj; simp at this; omega)
      have HO := Lib.hid (And.intro ho1 hb1)
      clear hown' hgrow ho1 hb1
      go_wp2_with fail
      go_ret
      exact ⟨p1, c1, rfl, HO.out.1, HO.out.2⟩
    · obtain ⟨b, off, ha, hb, hc⟩ := h.cell (List.length_pos_iff.1 hl0)
      have HA := Lib.hid ha
      obtain rfl : a = ⟨b, off, none⟩ := by simpa using ha
      have HC := Lib.hid hc
      have hok := Lib.hid h.ok
      clear h hc ha
      go_enter Tryz.func126, Tryz.ntmps126
      go_wp2_with (at_builtin; refine wpList_append_own _ rfl _ _ 26 rfl w.heap.size 51 i0 (.int .u32 0) 1 4 Tryz.underlying26 hi hz0 hz1 hz2 rfl (by decide) _ 0 [] rfl (World.ownsRow_made w #[] 0 (Nat.le_refl _) (Nat.zero_le _) rfl) ⟨b, off, none⟩ l.length cap (cells32 l) rfl ?c0 ?c1 ?c2 ?c3 ?c4 ?c5 ?_)
      case c0 => simp [cells32]
      case c1 =>
        intro j u hj
        unfold cells32 at hj
        rw [List.getElem?_map] at hj
        obtain ⟨x, hx, rfl⟩ := Option.map_eq_some_iff.1 hj
        exact HC.out j x hx
      case c2 =>
        intro u hu
        unfold cells32 at hu
        obtain ⟨x, _, rfl⟩ := List.mem_map.1 hu
        rfl
      case c3 => unfold maxLen; omega
      case c4 => omega
      intro v' w1 hown' hgrow _
      obtain ⟨p1, c1, rfl, ho1⟩ := NatO.slice_own (l := l) (by simpa using hown') hok.out
      have hb1 : Below w.heap.size w w1 := ((Below.refl _ _).alloc (Nat.le_refl _) _).grown hgrow (by simp) (fun j hj => by have := Option.some.inj hj; simp at this; omega)
      have HO := Lib.hid (And.intro ho1 hb1)
      clear hown' hgrow ho1 hb1
      go_wp2_with fail
      go_ret
      exact ⟨p1, c1, by simp, HO.out.1, HO.out.2⟩
end Go.Proofs.YtfgoflaeclfggaaGreatDoor
end
section
namespace Go.Proofs.YtfgoflaeclfggaaGreatDoor.NatM
/-! ### decimal digits -/
structure TInv (n : Nat) (ds : List Nat) (q : Nat) : Prop where
  ok : okB 10 ds
  val : valB 10 ds + 10 ^ ds.length * q = n
  fin : q = 0 → nrm ds
theorem TInv.start (n : Nat) : TInv n [] n := ⟨okB_nil _, by simp [valB], fun _ _ h => by cases h⟩
theorem TInv.step {n q : Nat} {ds : List Nat} (h : TInv n ds q) (hq : 0 < q) : TInv n (ds ++ [q % 10]) (q / 10) := by
  refine ⟨okB_snoc h.ok (Nat.mod_lt _ (by omega)), ?_, fun h0 => nrm_snoc (by omega)⟩
  rw [valB_snoc, List.length_append, List.length_singleton, Nat.pow_succ, Nat.mul_assoc, Nat.add_assoc, ← Nat.mul_add]
  have : q % 10 + 10 * (q / 10) = q := by omega
  rw [this]; exact h.val
theorem TInv.done {n : Nat} {ds : List Nat} (h : TInv n ds 0) : digs 10 n = ds := digs_unique (by omega) h.ok (h.fin rfl) (by have := h.val; omega)
theorem TInv.len {n q : Nat} {ds : List Nat} (h : TInv n ds q) (hq : 0 < q) : 10 ^ ds.length ≤ n := by
  have h1 := h.val
  have : 10 ^ ds.length * 1 ≤ 10 ^ ds.length * q := Nat.mul_le_mul_left _ hq
  omega
theorem dec_len {n m k : Nat} (h : n < 4294967296 ^ m) (hk : 10 ^ k ≤ n) : k < 10 * m := by
  rcases Nat.lt_or_ge k (10 * m) with h1 | h1
  · exact h1
  · exfalso
    have h2 : 10 ^ (10 * m) ≤ 10 ^ k := Nat.pow_le_pow_right (by omega) h1
    rw [Nat.pow_mul] at h2
    have h3 : 4294967296 ^ m ≤ (10 ^ 10) ^ m := Nat.pow_le_pow_left (by decide) m
    omega
theorem pow9 {i : Nat} (h : i < 9) : 10 ^ (9 - i) = 10 * 10 ^ (9 - (i + 1)) := by
  rw [show 9 - i = (9 - (i + 1)) + 1 by omega, Nat.pow_succ, Nat.mul_comm]
theorem inner_step {n R i chunk : Nat} {ds : List Nat} (hi : i < 9) (h : TInv n ds (chunk + 10 ^ (9 - i) * R)) (hgo : 0 < R ∨ 0 < chunk) : TInv n (ds ++ [chunk % 10]) (chunk / 10 + 10 ^ (9 - (i + 1)) * R) := by
  have hp : 0 < chunk + 10 ^ (9 - i) * R := by
    rcases hgo with h1 | h1
    · have := Nat.mul_pos (Nat.pow_pos (by omega) : 0 < 10 ^ (9 - i)) h1; omega
    · omega
  have hs := h.step hp
  rw [pow9 hi, Nat.mul_assoc] at hs
  have e1 : (chunk + 10 * (10 ^ (9 - (i + 1)) * R)) % 10 = chunk % 10 := by omega
  have e2 : (chunk + 10 * (10 ^ (9 - (i + 1)) * R)) / 10 = chunk / 10 + 10 ^ (9 - (i + 1)) * R := by omega
  rw [e1, e2] at hs
  exact hs
theorem inner_lt {i chunk : Nat} (hi : i < 9) (h : chunk < 10 ^ (9 - i)) : chunk / 10 < 10 ^ (9 - (i + 1)) := by
  rw [pow9 hi] at h
  omega
theorem inner_le {i chunk : Nat} (h : chunk < 10 ^ (9 - i)) : chunk < 1000000000 := by
  have : 10 ^ (9 - i) ≤ 10 ^ 9 := Nat.pow_le_pow_right (by omega) (by omega)
  have e : 10 ^ 9 = 1000000000 := by decide
  omega
theorem inner_pos {n R i chunk : Nat} {ds : List Nat} (h : TInv n ds (chunk + 10 ^ (9 - i) * R)) (hgo : 0 < R ∨ 0 < chunk) : 10 ^ ds.length ≤ n := by
  refine h.len ?_
  rcases hgo with h1 | h1
  · have := Nat.mul_pos (Nat.pow_pos (by omega) : 0 < 10 ^ (9 - i)) h1; omega
  · omega
theorem outer_enter {n R : Nat} {ds : List Nat} (h : TInv n ds R) : TInv n ds (R % 1000000000 + 10 ^ (9 - 0) * (R / 1000000000)) := by
  have e : 10 ^ (9 - 0) = 1000000000 := by decide
  rw [e, Nat.mod_add_div]; exact h
/-- The decimal digits of a number, the highest first. -/
def decL (n : Nat) : List Nat := if n = 0 then [0] else (digs 10 n).reverse

/-! ### turning a list round, two by two -/
def RevAt {α : Type} (xs zs : List α) (k : Nat) : Prop := zs.length = xs.length ∧ ∀ t, t < xs.length → zs[t]? = if t < k ∨ xs.length ≤ t + k then xs[xs.length - 1 - t]? else xs[t]?
theorem RevAt.start {α : Type} (xs : List α) : RevAt xs xs 0 := ⟨rfl, fun t ht => by rw [if_neg (by omega)]⟩
theorem RevAt.step {α : Type} {xs zs : List α} {k : Nat} {x y : α} (h : RevAt xs zs k) (hk : 2 * k + 1 < xs.length) (hx : zs[k]? = some x) (hy : zs[xs.length - 1 - k]? = some y) :
    RevAt xs ((zs.set k y).set (xs.length - 1 - k) x) (k + 1) := by
  obtain ⟨hl, ha⟩ := h
  have hx' := ha k (by omega)
  rw [hx, if_neg (by omega)] at hx'
  have hy' := ha (xs.length - 1 - k) (by omega)
  rw [hy, if_neg (by omega)] at hy'
  refine ⟨by simp [hl], fun t ht => ?_⟩
  by_cases h1 : t = xs.length - 1 - k
  · subst h1
    rw [List.getElem?_set_self (by simp; omega), if_pos (by omega), show xs.length - 1 - (xs.length - 1 - k) = k by omega]
    exact hx'
  · rw [List.getElem?_set_ne (by omega)]
    by_cases h2 : t = k
    · subst h2
      rw [List.getElem?_set_self (by omega), if_pos (by omega)]
      exact hy'
    · rw [List.getElem?_set_ne (by omega), ha t ht]
      by_cases h3 : t < k ∨ xs.length ≤ t + k
      · rw [if_pos h3, if_pos (by omega)]
      · rw [if_neg h3, if_neg (by omega)]
theorem RevAt.done {α : Type} {xs zs : List α} {k : Nat} (h : RevAt xs zs k) (hk : xs.length ≤ 2 * k + 1) : zs = xs.reverse := by
  obtain ⟨hl, ha⟩ := h
  apply List.ext_getElem?
  intro t
  rcases Nat.lt_or_ge t xs.length with ht | ht
  · rw [ha t ht, List.getElem?_reverse ht]
    split
    · rfl
    · congr 1; omega
  · rw [List.getElem?_eq_none (by omega), List.getElem?_eq_none (by simp; omega)]
end Go.Proofs.YtfgoflaeclfggaaGreatDoor.NatM
end
section
namespace Go.Proofs.YtfgoflaeclfggaaGreatDoor
open Go.RowKit NatM

/-- bytes as cells -/
def cells8 (bs : List Nat) : List Value := bs.map fun (b : Nat) => Value.int .u8 (b : Int)
theorem cells8_length (l : List Nat) : (cells8 l).length = l.length := by simp [cells8]
theorem cells8_get {l : List Nat} {j x : Nat} (h : l[j]? = some x) : (cells8 l)[j]? = some (.int .u8 (x : Int)) := by simp [cells8, h]
theorem cells8_set (l : List Nat) (k x : Nat) : cells8 (l.set k x) = (cells8 l).set k (.int .u8 (x : Int)) := by simp [cells8, List.map_set]

def RevRel (w : World) (base g cap : Nat) (xs : List Nat) (v2 v3 : Value) (wr : World) : Prop :=
  ∃ (k : Nat) (zs : List Nat), 2 * k ≤ xs.length ∧ v2 = .int .i64 (k : Int) ∧ v3 = .int .i64 ((xs.length : Int) - 1 - (k : Int)) ∧ RevAt xs zs k ∧ wr.ownsRow base 5 1 (.slice (some ⟨g, 0, none⟩) xs.length cap) xs.length (cells8 zs) ∧ w.grownBy wr (some g)
def RevPost (w : World) (base g cap : Nat) (xs : List Nat) (e : Ending) (w' : World) : Prop :=
  e = .returned (.tuple #[]) ∧ w'.ownsRow base 5 1 (.slice (some ⟨g, 0, none⟩) xs.length cap) xs.length (cells8 xs.reverse) ∧ w.grownBy w' (some g)

set_option maxHeartbeats 1000000 in
theorem reverse_any (base g cap : Nat) (xs : List Nat) (w : World) (hl : xs.length ≤ 9223372036854775807) (h : w.ownsRow base 5 1 (.slice (some ⟨g, 0, none⟩) xs.length cap) xs.length (cells8 xs)) :
    Calls Tryz.prog 134 #[.slice (some ⟨g, 0, none⟩) xs.length cap] w (RevPost w base g cap xs) := by
  have H := Lib.hid h
  clear h
  go_enter Tryz.func134, Tryz.ntmps134
  go_wp2_with fail
  go_loopw [2, 3] (fun v2 v3 wr => RevRel w base g cap xs v2 v3 wr) (fun v _ _ => xs.length - (intOf v).toNat)
  case atStart => exact ⟨0, xs, Nat.zero_le _, rfl, by go_num, RevAt.start xs, H.out, World.grownBy.refl _ _⟩
  case round =>
    obtain ⟨k, zs, hk, rfl, rfl, hR, ho, hb⟩ := hrel
    have HR := Lib.hid (And.intro hR (And.intro ho hb))
    by_cases hgo : 2 * k + 1 < xs.length
    · obtain ⟨j, hj⟩ : ∃ j, xs.length - 1 - k = j := ⟨_, rfl⟩
      have e1 : ((xs.length : Int) - 1 - (k : Int)) = (j : Int) := by omega
      rw [e1]
      have hzl : zs.length = xs.length := hR.1
      obtain ⟨x, hx⟩ : ∃ x, zs[k]? = some x := ⟨_, List.getElem?_eq_getElem (by omega)⟩
      obtain ⟨y, hy⟩ : ∃ y, zs[j]? = some y := ⟨_, List.getElem?_eq_getElem (by omega)⟩
      have hcx : wr.cell? ⟨g, k, none⟩ = some (.int .u8 (x : Int)) := (ho.cellAt k (by omega)).trans (cells8_get hx)
      have hcy : wr.cell? ⟨g, j, none⟩ = some (.int .u8 (y : Int)) := (ho.cellAt j (by omega)).trans (cells8_get hy)
      have hfx : wr.frozen? ⟨g, k, none⟩ = false := ho.frozenAt k
      have hfy : wr.frozen? ⟨g, j, none⟩ = false := ho.frozenAt j
      have hkj : k < j := by omega
      have hjn : j < xs.length := by omega
      have hkn : k < xs.length := by omega
      have hne : ¬ k = j := by omega
      have hne2 : ¬ j = k := by omega
      have hst := hR.step hgo hx (by rw [hj]; exact hy)
      rw [hj] at hst
      obtain ⟨s1, t1⟩ := ho.stored k (.int .u8 (y : Int))
      obtain ⟨s2, t2⟩ := s1.stored j (.int .u8 (x : Int))
      rw [← cells8_set, ← cells8_set] at s2
      have HS := Lib.hid (And.intro hst (And.intro s2 (And.intro (World.grownBy.trans (World.grownBy.trans hb t1) t2) hj)))
      clear hst hj hzl e1 hR ho hb hx hy s1 s2 t1 t2
      go_wp2_with fail
      go_region
      go_wp2_with fail
      go_roundw
      case rel => exact ⟨k + 1, (zs.set k y).set j x, by omega, by go_num, by have := HS.out.2.2.2; go_num, HS.out.1, HS.out.2.1, only_drew HS.out.2.2.1⟩
      case measure => simp [intOf]; omega
    · have hd : zs = xs.reverse := hR.done (by omega)
      have HD := Lib.hid hd
      clear hd hR ho hb
      go_wp2_with fail
      go_end0
      exact ⟨rfl, by have := HR.out.2.1; rwa [HD.out] at this, HR.out.2.2⟩
theorem info8 : (Tryz.prog.info? 5).map (fun i => (i.zero, i.size, i.bytes)) = some (some (.int .u8 0), 1, 1) := by kernel_rfl
/-- rows of different element types lie in different blocks -/
theorem own_ne {w : World} {b b' : Nat} {e e' : TypeId} {v v' : Value} {n n' : Nat} {xs xs' : List Value} (h : w.ownsRow b e 1 v n xs) (h' : w.ownsRow b' e' 1 v' n' xs') (hne : e ≠ e') : v.ownBlock = none ∨ v.ownBlock ≠ v'.ownBlock := by
  rcases h.2 with ⟨rfl, _⟩ | ⟨g, cap, cur, rfl, _, hh, _⟩
  · exact Or.inl rfl
  · right
    rcases h'.2 with ⟨rfl, _⟩ | ⟨g', cap', cur', rfl, _, hh', _⟩
    · simp [Value.ownBlock]
    · intro hq
      have : g = g' := by simpa [Value.ownBlock] using hq
      subst this
      rw [hh] at hh'
      injection hh' with hh'
      injection hh' with _ ht
      exact hne ht
theorem ownBlock_slice (p : Option Addr) (n c : Nat) : (Value.slice p n c).ownBlock = p.map (·.block) := by cases p <;> rfl

def chars (ds : List Nat) : List Nat := ds.map fun d => 48 + d
theorem chars_snoc (ds : List Nat) (d : Nat) : chars (ds ++ [d]) = chars ds ++ [48 + d] := by simp [chars]
theorem chars_length (ds : List Nat) : (chars ds).length = ds.length := by simp [chars]
theorem cells8_snoc (l : List Nat) (x : Nat) : cells8 (l ++ [x]) = cells8 l ++ [.int .u8 (x : Int)] := by simp [cells8]
/-- the decimal text of a number -/
def textOf (n : Nat) : ByteArray := strOfNums ((decL n).map fun (d : Nat) => ((48 + d : Nat) : Int))

/-- the digits that Text has gathered, the lowest first -/
def DigO (B : Nat) (w : World) (v : Value) (ds : List Nat) : Prop := ∃ pd cd, v = .slice pd ds.length cd ∧ w.ownsRow B 5 1 (.slice pd ds.length cd) ds.length (cells8 (chars ds))
theorem DigO.of {B : Nat} {w : World} {v : Value} {ds : List Nat} (h : w.ownsRow B 5 1 v ds.length (cells8 (chars ds))) : ∃ pd cd, v = .slice pd ds.length cd ∧ w.ownsRow B 5 1 (.slice pd ds.length cd) ds.length (cells8 (chars ds)) := by
  rcases own_shape h with ⟨rfl, h0, _⟩ | ⟨g, cap, rfl, _⟩
  · obtain rfl := List.eq_nil_of_length_eq_zero h0
    exact ⟨none, 0, rfl, h⟩
  · exact ⟨_, _, rfl, h⟩
def TextRel (B : Nat) (w : World) (n : Nat) (p : Option Addr) (c : Nat) (gk : Nat) (v3 v4 : Value) (wr : World) : Prop :=
  ∃ (R : Nat) (ds : List Nat), v3 = .slice p (D32 R).length c ∧ DigO B wr v4 ds ∧ TInv n ds R ∧ NatO B wr p c (D32 R) ∧ Below B w wr ∧ R ≤ gk
def InnerRel (B : Nat) (w : World) (n : Nat) (p : Option Addr) (c R : Nat) (gk : Nat) (v4 v5 v6 : Value) (wr : World) : Prop :=
  ∃ (i chunk : Nat) (ds : List Nat), i ≤ 9 ∧ v6 = .int .i64 (i : Int) ∧ v5 = .int .u32 (chunk : Int) ∧ chunk < 10 ^ (9 - i) ∧ DigO B wr v4 ds ∧ TInv n ds (chunk + 10 ^ (9 - i) * R) ∧ NatO B wr p c (D32 R) ∧ Below B w wr ∧ 9 - i ≤ gk

set_option maxRecDepth 100000 in
set_option maxHeartbeats 4000000 in
theorem text_any (p : Option Addr) (cap : Nat) (l : List Nat) (w : World) (h : NatV w.heap.size w p cap l) (hl : l.length ≤ 100000) :
    Calls Tryz.prog 96 #[.slice p l.length cap] w (Tells (.string (textOf (V32 l))) w) := by
  obtain ⟨i0, hi, hz0, hz1, hz2⟩ := info_parts info8
  have H := Lib.hid h
  have hln : (D32 (V32 l)).length ≤ 100000 := Nat.le_trans (D32_le h.ok) hl
  have hnlt : V32 l < 4294967296 ^ l.length := V32_lt h.ok
  have HN := Lib.hid hnlt
  clear h hnlt
  go_enter Tryz.func96, Tryz.ntmps96
  go_wp2_with fail
  refine (trim_any p cap l _ H.out).mono ?_
  rintro e w' ⟨rfl, rfl⟩
  go_wp2_with fail
  refine (clone_any p cap (D32 (V32 l)) _ H.out.trim (by omega)).mono ?_
  rintro e w1 ⟨p1, c1, rfl, ho1, hb1⟩
  obtain ⟨n, hn⟩ : ∃ n, V32 l = n := ⟨_, rfl⟩
  rw [hn] at ho1 hln HN ⊢
  have HNN := Lib.hid hn
  have HO1 := Lib.hid (And.intro ho1 hb1)
  clear ho1 hb1 hn
  go_wp2_with fail
  go_loopg [3, 4] n (fun gk v3 v4 wr => TextRel w.heap.size w n p1 c1 gk v3 v4 wr)
  case atStart => exact ⟨n, [], rfl, ⟨none, 0, rfl, World.ownsRow_nil _ _ _ _⟩, TInv.start n, HO1.out.1, HO1.out.2, Nat.le_refl _⟩
  case round =>
    obtain ⟨R, ds, rfl, ⟨pd, cd, rfl, hd⟩, hT, ho, hb, hgk⟩ := hrel
    have hwB : w.heap.size ≤ wr.heap.size := hb.size
    have HR := Lib.hid (And.intro hd (And.intro hT (And.intro ho hb)))
    rcases Nat.eq_zero_or_pos R with hR0 | hR0
    · subst hR0
      have hd0 : D32 0 = [] := D32_nil.2 rfl
      have HD0 := Lib.hid hd0
      have hdg : digs 10 n = ds := hT.done
      have HDG := Lib.hid hdg
      rcases Nat.eq_zero_or_pos ds.length with hz | hz
      · have hn0 : n = 0 := by
          have e := List.eq_nil_of_length_eq_zero hz
          rw [e] at hdg
          exact (digs_eq_nil (by omega)).1 hdg
        obtain rfl : ds = [] := List.eq_nil_of_length_eq_zero hz
        have hr0 : ∃ q x, .slice p1 (D32 0).length c1 = Value.slice q x c1 := ⟨_, _, rfl⟩
        have hl0 : (D32 0).length = 0 := by rw [hd0]; rfl
        rw [hl0]
        have HN0 := Lib.hid hn0
        clear hd0 hdg hT ho hb hd hz hn0 hl0 hr0
        go_wp2_with fail
        go_ret
        refine ⟨?_, HR.out.2.2.2⟩
        rw [HNN.out, HN0.out]
        rfl
      · have hn0 : n ≠ 0 := by
          rintro rfl
          rw [digs_zero] at hdg
          rw [← hdg] at hz
          exact absurd hz (by decide)
        have hl0 : (D32 0).length = 0 := by rw [hd0]; rfl
        rw [hl0]
        rcases own_shape hd with ⟨_, h0, _⟩ | ⟨g, cap', hv, hg, hglt, hc, hm, hcl, _⟩
        · omega
        obtain ⟨rfl, rfl⟩ : pd = some ⟨g, 0, none⟩ ∧ cd = cap' := by simpa using hv
        have hcap' := hm
        unfold maxLen at hcap'
        obtain ⟨bs, hbs⟩ : ∃ bs, chars ds = bs := ⟨_, rfl⟩
        rw [hbs] at hd
        have hbl : bs.length = ds.length := by rw [← hbs, chars_length]
        rw [← hbl] at hd hz ⊢
        have hrev := fun (W : World) (hW : W.ownsRow w.heap.size 5 1 (.slice (some ⟨g, 0, none⟩) bs.length cd) bs.length (cells8 bs)) => reverse_any w.heap.size g cd bs W (by omega) hW
        have HD := Lib.hid (And.intro hd (And.intro hbs (And.intro hg hn0)))
        have hbs0 : ((bs.length : Int) == 0) = false := by rw [beq_eq_false_iff_ne]; omega
        have HREV := Lib.hid hrev
        have hlen2 : bs.length ≤ 9223372036854775807 := by omega
        clear hd0 hdg hT ho hb hd hn0 hl0 hv hg hbs hbl hcl hm hrev hc
        go_wp2_with fail
        refine (HREV.out _ HD.out.1).mono ?_
        rintro e w2 ⟨rfl, ho2, hg2⟩
        have hbb : Below w.heap.size w w2 := HR.out.2.2.2.grown hg2 hwB (fun k hk => by have := Option.some.inj hk; have := HD.out.2.2.1; omega)
        have hcv := run_convert_bytes_arg (P := Tryz.prog) w2 114 5 Tryz.underlying114 Tryz.underlying5 g 0 bs.length cd (bs.reverse.map fun (b : Nat) => (b : Int)) (by simp) (fun i hi => by
          rw [Nat.zero_add]
          have hir : i < bs.reverse.length := by simpa using hi
          have h1 := (ho2.cellAt i (by omega))
          rw [h1, cells8_get (List.getElem?_eq_getElem hir)]
          simp [List.getD_eq_getElem?_getD, hi]) 9 Tryz.underlying9
        have htx : strOfNums (bs.reverse.map fun (b : Nat) => (b : Int)) = textOf n := by
          unfold textOf decL
          rw [if_neg HD.out.2.2.2, HDG.out, ← HD.out.2.1]
          congr 1
          unfold chars
          rw [← List.map_reverse, List.map_map]
          rfl
        rw [htx] at hcv
        have HB := Lib.hid hbb
        clear ho2 hg2 hbb htx
        go_wp2_with fail
        go_ret
        exact ⟨by rw [HNN.out]; rfl, HB.out⟩
    · have hne : 0 < (D32 R).length := List.length_pos_iff.2 (fun e => by have := D32_nil.1 e; omega)
      clear hd hT ho
      go_wp2_with fail
      refine (divide_any (B := w.heap.size) p1 c1 (D32 R) 1000000000 _ HR.out.2.2.1 (by omega) (by omega)).mono ?_
      rintro e w2 ⟨rfl, ⟨t, htv, htl, hto⟩, honly⟩
      rw [V32_D32] at htv
      have hb2 : Below w.heap.size w w2 := HR.out.2.2.2.trans (honly.below hwB (fun x hx => by
        obtain ⟨g, hg, hgb, _⟩ := HR.out.2.2.1.shape hne
        rw [hg] at hx
        have := Option.some.inj hx
        subst this
        exact hgb))
      have hd2 : w2.ownsRow w.heap.size 5 1 (.slice pd ds.length cd) ds.length (cells8 (chars ds)) := HR.out.1.kept honly (by
        rw [← ownBlock_slice p1 (D32 R).length c1]
        exact own_ne HR.out.1 HR.out.2.2.1.own (by decide))
      rw [← htl, V32_D32]
      have htt := trim_any p1 c1 t w2 hto.toV
      rw [htv] at htt
      have hto2 := hto.trim
      rw [htv] at hto2
      have hch : R % 1000000000 < 1000000000 := Nat.mod_lt _ (by omega)
      have hT2 := outer_enter HR.out.2.1
      obtain ⟨R', hR'⟩ : ∃ R', R / 1000000000 = R' := ⟨_, rfl⟩
      obtain ⟨ch, hch'⟩ : ∃ ch, R % 1000000000 = ch := ⟨_, rfl⟩
      rw [hR'] at htt hto2 hT2
      rw [hch'] at hch hT2 ⊢
      have hRR : R' < R := by omega
      have HT2 := Lib.hid (And.intro hd2 (And.intro hT2 (And.intro hto2 hb2)))
      have HTT := Lib.hid htt
      clear hd2 hT2 hto2 hb2 honly hto htv htl hR' hch' hb htt hne
      go_wp2_with fail
      refine HTT.out.mono ?_
      rintro e w' ⟨rfl, rfl⟩
      go_wp2_with fail
      go_loopg [4, 5, 6] 9 (fun gk v4 v5 v6 wr => InnerRel w.heap.size w n p1 c1 R' gk v4 v5 v6 wr)
      case atStart => exact ⟨0, ch, ds, by omega, rfl, rfl, hch, ⟨pd, cd, rfl, HT2.out.1⟩, HT2.out.2.1, HT2.out.2.2.1, HT2.out.2.2.2, by omega⟩
      case round =>
        obtain ⟨i, chunk, ds2, hi9, rfl, rfl, hck, ⟨pd2, cd2, rfl, hd⟩, hT, ho, hb, hgi⟩ := hrel
        have hwB3 : w.heap.size ≤ wr.heap.size := hb.size
        have hckb := inner_le hck
        have HI := Lib.hid (And.intro hck (And.intro hd (And.intro hT (And.intro ho hb))))
        by_cases hgo : i < 9 ∧ (0 < R' ∨ 0 < chunk)
        · obtain ⟨hlt, hgo⟩ := hgo
          have hdl := dec_len HN.out (inner_pos hT hgo)
          have hdl2 : ds2.length < 1000000 := by omega
          have hst := inner_step hlt hT hgo
          have hlt2 := inner_lt hlt hck
          have HS := Lib.hid (And.intro hst hlt2)
          have HGO := Lib.hid hgo
          have hm0 : chunk % 10 < 10 := Nat.mod_lt _ (by omega)
          have HDL := Lib.hid hdl2
          have hown : wr.ownsRow w.heap.size 5 1 (.slice pd2 ds2.length cd2) ds2.length (cells8 (chars ds2)) := hd
          rw [← chars_length ds2] at hown
          have hrne := own_ne HI.out.2.2.2.1.own HI.out.2.1 (by decide)
          have HNE := Lib.hid hrne
          obtain ⟨L, hL⟩ : ∃ L, (chars ds2).length = L := ⟨_, rfl⟩
          have hLd : ds2.length = L := by rw [← hL, chars_length]
          rw [hL] at hown
          rw [hLd] at hdl2 ⊢
          have HL := Lib.hid (And.intro hL hLd)
          clear hck hT ho hb hst hlt2 hdl hd hrne hL hLd hgo
          go_upto_region 7 with fail
          go_cut [27] (fun v wx => v = .bool true ∧ wx = wr)
          case first =>
            rcases HGO.out with h1 | h1
            · have hrl : 0 < (D32 R').length := List.length_pos_iff.2 (fun e => by have := D32_nil.1 e; omega)
              go_wp2_with fail
              go_meet
              exact ⟨rfl, rfl⟩
            · rcases Nat.eq_zero_or_pos (D32 R').length with h2 | h2
              · have h3 : decide ((0 : Int) < ((D32 R').length : Int)) = false := by rw [decide_eq_false_iff_not]; omega
                have h4 : decide (0 < (D32 R').length) = false := by rw [decide_eq_false_iff_not]; omega
                have H2 := Lib.hid h2
                clear h2
                go_wp2_with fail
                go_meet
                exact ⟨rfl, rfl⟩
              · go_wp2_with fail
                go_meet
                exact ⟨rfl, rfl⟩
          case rest =>
            obtain ⟨rfl, rfl⟩ := hcut
            go_wp2_with (at_builtin; refine wpList_append_own _ rfl _ _ 114 rfl w.heap.size 5 i0 (.int .u8 0) 1 1 Tryz.underlying114 hi hz0 hz1 hz2 rfl (by decide) _ _ _ rfl (hown.alloc _) ⟨wc.heap.size, 0, none⟩ 1 1 [.int .u8 ((48 + chunk % 10 : Nat) : Int)] rfl rfl (cell_one_new _ _ _) ?c2 ?c3 ?c4 ?c5 ?_)
            case c2 => intro u hu; simp at hu; subst hu; rfl
            case c3 => unfold maxLen; omega
            case c4 => omega
            case c5 => simp; omega
            intro v' w3 hown' hgrow _
            have hown' : w3.ownsRow w.heap.size 5 1 v' (L + 1) (cells8 (chars ds2) ++ [.int .u8 ((48 + chunk % 10 : Nat) : Int)]) := hown'
            rw [← cells8_snoc, ← chars_snoc] at hown'
            have hlen' : L + 1 = (ds2 ++ [chunk % 10]).length := by rw [List.length_append, List.length_singleton, HL.out.2]
            rw [hlen'] at hown'
            obtain ⟨pd3, cd3, rfl, hd3⟩ := DigO.of hown'
            have hb3 : Below w.heap.size w w3 := (HI.out.2.2.2.2.alloc hwB3 _).grown hgrow (by simp; omega) (fun j hj => (hown.lt j hj).1)
            have ho3 : NatO w.heap.size w3 p1 c1 (D32 R') := ⟨(HI.out.2.2.2.1.own.alloc _).kept hgrow (by rw [← HL.out.2]; exact HNE.out), HI.out.2.2.2.1.ok⟩
            have HF := Lib.hid (And.intro hd3 (And.intro ho3 hb3))
            clear hown hown' hgrow hlen' hd3 hb3 ho3
            go_wp2_with fail
            go_roundg (9 - (i + 1))
            case rel => exact ⟨i + 1, chunk / 10, ds2 ++ [chunk % 10], by omega, by go_num, rfl, HS.out.2, ⟨pd3, cd3, rfl, HF.out.1⟩, HS.out.1, HF.out.2.1, HF.out.2.2, Nat.le_refl _⟩
            case measure => omega
        · have hq : chunk + 10 ^ (9 - i) * R' = R' := by
            rcases Nat.lt_or_ge i 9 with h1 | h1
            · have h2 : R' = 0 ∧ chunk = 0 := by omega
              rw [h2.1, h2.2]; simp
            · obtain rfl : i = 9 := by omega
              simp at hck ⊢
              exact hck
          rw [hq] at hT
          have HQ := Lib.hid (And.intro hT (And.intro hd (And.intro ho hb)))
          clear hck hT ho hb hd hq
          rcases Nat.lt_or_ge i 9 with h1 | h1
          · have hz : R' = 0 ∧ chunk = 0 := by omega
            have h2 : (D32 R').length = 0 := by rw [D32_nil.2 hz.1]; rfl
            have h3 : decide ((0 : Int) < ((D32 R').length : Int)) = false := by rw [decide_eq_false_iff_not]; omega
            have h4 : decide (0 < (D32 R').length) = false := by rw [decide_eq_false_iff_not]; omega
            obtain rfl : chunk = 0 := hz.2
            clear h2 hgo hz
            go_wp2_with fail
            go_roundg R'
            case rel => exact ⟨R', ds2, rfl, ⟨pd2, cd2, rfl, HQ.out.2.1⟩, HQ.out.1, HQ.out.2.2.1, HQ.out.2.2.2, Nat.le_refl _⟩
            case measure => omega
          · clear hgo
            go_wp2_with fail
            go_roundg R'
            case rel => exact ⟨R', ds2, rfl, ⟨pd2, cd2, rfl, HQ.out.2.1⟩, HQ.out.1, HQ.out.2.2.1, HQ.out.2.2.2, Nat.le_refl _⟩
            case measure => omega
end Go.Proofs.YtfgoflaeclfggaaGreatDoor
end
section
namespace Go.Proofs.YtfgoflaeclfggaaGreatDoor.NatM
/-! ### decimal texts -/
def isDig (b : Nat) : Bool := decide (48 ≤ b) && decide (b ≤ 57)
/-- What is wrong with a text of digits: the place, and the error's number; none: nothing. -/
def parseBad (l : List Nat) : Option (Nat × Nat) :=
  if 1200 < l.length then some (0, 4) else if l.length = 0 then some (0, 6) else
    match l.findIdx? (fun b => !isDig b) with
    | some i => some (i, 6)
    | none => if 1 < l.length ∧ l[0]? = some 48 then some (0, 6) else none
def numOf (l : List Nat) : Nat := l.foldl (fun n b => n * 10 + (b - 48)) 0
theorem numOf_take {l : List Nat} {k b : Nat} (h : l[k]? = some b) : numOf (l.take (k + 1)) = numOf (l.take k) * 10 + (b - 48) := by
  unfold numOf
  rw [take_snoc (get_lt h), List.foldl_append, get_eq h]
  rfl
theorem numOf_nil : numOf [] = 0 := rfl
theorem numOf_lt (l : List Nat) (h : ∀ b ∈ l, isDig b = true) : numOf l < 10 ^ l.length := by
  have key : ∀ (l : List Nat) (a : Nat), (∀ b ∈ l, isDig b = true) → l.foldl (fun n b => n * 10 + (b - 48)) a < (a + 1) * 10 ^ l.length := by
    intro l
    induction l with
    | nil => intro a _; simp
    | cons b l ih =>
      intro a hl
      have hb : b - 48 ≤ 9 := by
        have := hl b List.mem_cons_self
        unfold isDig at this
        simp at this
        omega
      have h1 := ih (a * 10 + (b - 48)) (fun c hc => hl c (List.mem_cons_of_mem _ hc))
      rw [List.foldl_cons, List.length_cons, Nat.pow_succ]
      have h2 : (a * 10 + (b - 48) + 1) * 10 ^ l.length ≤ ((a + 1) * 10) * 10 ^ l.length := Nat.mul_le_mul_right _ (by omega)
      have h3 : (a + 1) * 10 * 10 ^ l.length = (a + 1) * (10 ^ l.length * 10) := by rw [Nat.mul_assoc, Nat.mul_comm 10]
      omega
  have := key l 0 h
  unfold numOf
  omega
/-- The digits of the number are the text's, where the text does not begin with 0. -/
theorem numOf_val (l : List Nat) : numOf l = valB 10 ((l.map (· - 48)).reverse) := by
  have key : ∀ (l : List Nat) (a : Nat), l.foldl (fun n b => n * 10 + (b - 48)) a = valB 10 ((l.map (· - 48)).reverse) + 10 ^ l.length * a := by
    intro l
    induction l with
    | nil => intro a; simp [valB]
    | cons b l ih =>
      intro a
      rw [List.foldl_cons, ih, List.map_cons, List.reverse_cons, valB_snoc, List.length_reverse, List.length_map, List.length_cons, Nat.pow_succ]
      rw [Nat.mul_add, Nat.mul_assoc, Nat.mul_comm a 10]
      omega
  have := key l 0
  unfold numOf
  omega
theorem findIdx_none {l : List Nat} {p : Nat → Bool} (h : l.findIdx? p = none) : ∀ b ∈ l, p b = false := by
  intro b hb
  have := List.findIdx?_eq_none_iff.1 h b hb
  simpa using this
theorem dec_read {l : List Nat} (hd : ∀ b ∈ l, isDig b = true) (hl : 0 < l.length) (hz : ¬ (1 < l.length ∧ l[0]? = some 48)) : (decL (numOf l)).map (48 + ·) = l := by
  have hback : ∀ m : List Nat, (∀ b ∈ m, isDig b = true) → (m.map (· - 48)).map (48 + ·) = m := by
    intro m
    induction m with
    | nil => intro _; rfl
    | cons b m ih =>
      intro h
      have hb := h b List.mem_cons_self
      unfold isDig at hb
      simp at hb
      rw [List.map_cons, List.map_cons, ih (fun c hc => h c (List.mem_cons_of_mem _ hc))]
      congr 1
      omega
  have hok : okB 10 ((l.map (· - 48)).reverse) := by
    intro x hx
    rw [List.mem_reverse, List.mem_map] at hx
    obtain ⟨b, hb, rfl⟩ := hx
    have := hd b hb
    unfold isDig at this
    simp at this
    omega
  by_cases h0 : numOf l = 0
  · have hl1 : l.length = 1 := by
      rcases Nat.lt_or_ge 1 l.length with h1 | h1
      · exfalso
        apply hz
        refine ⟨h1, ?_⟩
        rw [numOf_val] at h0
        match l, hl with
        | b :: t, _ =>
          rw [List.map_cons, List.reverse_cons, valB_snoc] at h0
          have hp : 0 < 10 ^ (t.map (· - 48)).reverse.length := Nat.pow_pos (by omega)
          have h2 : b - 48 = 0 := by
            rcases Nat.eq_zero_or_pos (b - 48) with h3 | h3
            · exact h3
            · have := Nat.mul_pos hp h3; omega
          have := hd b List.mem_cons_self
          unfold isDig at this
          simp at this
          have : b = 48 := by omega
          simp [this]
      · omega
    match l, hl1 with
    | [b], _ =>
      have hb := hd b List.mem_cons_self
      unfold isDig at hb
      simp at hb
      have h2 : b - 48 = 0 := by simpa [numOf] using h0
      rw [h0]
      simp [decL]
      omega
  · unfold decL
    rw [if_neg h0]
    have hn : nrm ((l.map (· - 48)).reverse) := by
      intro x hx
      rw [List.getLast?_reverse] at hx
      match l, hl with
      | b :: t, _ =>
        simp at hx
        rintro rfl
        have hb := hd b List.mem_cons_self
        unfold isDig at hb
        simp at hb
        have hb48 : b = 48 := by omega
        subst hb48
        have h1 : ¬ 1 < (48 :: t).length := fun h => hz ⟨h, rfl⟩
        have ht : t = [] := by
          apply List.eq_nil_of_length_eq_zero
          simp at h1
          simpa using h1
        subst ht
        exact h0 rfl
    have hu := digs_unique (B := 10) (by omega) hok hn (numOf_val l).symm
    rw [hu, List.reverse_reverse]
    exact hback l hd
/-- And the other way: the text of a number is read as the number. -/
theorem dec_back (n : Nat) : numOf ((decL n).map (48 + ·)) = n ∧ (∀ b ∈ (decL n).map (48 + ·), isDig b = true) ∧ 0 < ((decL n).map (48 + ·)).length ∧ ¬ (1 < ((decL n).map (48 + ·)).length ∧ ((decL n).map (48 + ·))[0]? = some 48) := by
  by_cases h0 : n = 0
  · subst h0
    refine ⟨by decide, by decide, by decide, by decide⟩
  · have hm : ((decL n).map (48 + ·)).map (· - 48) = decL n := by
      rw [List.map_map]
      have : ((fun x => x - 48) ∘ (fun x => 48 + x)) = (id : Nat → Nat) := by funext x; simp
      rw [this, List.map_id]
    have hd : decL n = (digs 10 n).reverse := by unfold decL; rw [if_neg h0]
    refine ⟨?_, ?_, ?_, ?_⟩
    · rw [numOf_val, hm, hd, List.reverse_reverse]
      exact valB_digs (by omega) n
    · intro b hb
      rw [List.mem_map] at hb
      obtain ⟨d, hdm, rfl⟩ := hb
      rw [hd, List.mem_reverse] at hdm
      have := digs_ok (B := 10) (by omega) n d hdm
      unfold isDig
      simp
      omega
    · rw [List.length_map, hd, List.length_reverse]
      exact List.length_pos_iff.2 (fun e => h0 ((digs_eq_nil (by omega)).1 e))
    · rintro ⟨_, h1⟩
      rw [hd, List.getElem?_map] at h1
      obtain ⟨d, hd1, hd2⟩ := Option.map_eq_some_iff.1 h1
      have hl : (digs 10 n).getLast? = some d := by
        rw [← List.head?_reverse, List.head?_eq_getElem?]
        exact hd1
      exact digs_nrm (by omega) n d hl (by omega)
end Go.Proofs.YtfgoflaeclfggaaGreatDoor.NatM
end
section
namespace Go.Proofs.YtfgoflaeclfggaaGreatDoor
open Go.RowKit Go.Extern.Stop Go.Stop Go.Extern NatM

/-- a string's bytes as numbers -/
def bsOf (s : ByteArray) : List Nat := s.data.toList.map (·.toNat)
theorem bsOf_length (s : ByteArray) : (bsOf s).length = s.size := by
  unfold bsOf
  rw [List.length_map, Array.length_toList]
  rfl
theorem bsOf_get {s : ByteArray} {k : Nat} (h : k < s.size) : (bsOf s)[k]? = some (s[k]).toNat := by
  unfold bsOf
  rw [List.getElem?_map, List.getElem?_eq_getElem (by simpa using h)]
  rfl
theorem isDig_iff {b : Nat} : isDig b = true ↔ 48 ≤ b ∧ b ≤ 57 := by unfold isDig; simp

def natOp : ByteArray := { data := #[110, 97, 116] }
/-- nothing but an error of this package, with its place and its number -/
def ErrPost (w : World) (A : Nat → Addr) (pl : Int) (k : Nat) (e : Ending) (w' : World) : Prop :=
  ∃ b, e = .returned (.tuple #[.slice none 0 0, (Tree.fault b natOp pl (.leaf (A k))).val]) ∧ (Tree.fault b natOp pl (.leaf (A k))).lies w' ∧ Below w.heap.size w w'
/-- a number and no error -/
def OkPost (w : World) (n : Nat) (e : Ending) (w' : World) : Prop :=
  ∃ p c, e = .returned (.tuple #[.slice p (D32 n).length c, .nilIface]) ∧ NatO w.heap.size w' p c (D32 n) ∧ Below w.heap.size w w'

def ParseRel (w : World) (s : ByteArray) (v5 v44 : Value) (wr : World) : Prop :=
  ∃ (k : Nat) (p : Option Addr) (cap : Nat) (t : List Nat), k ≤ s.size ∧ v44 = .int .i64 (k : Int) ∧ v5 = .slice p t.length cap ∧ V32 t = numOf ((bsOf s).take k) ∧ nrm t ∧ t.length ≤ k ∧ NatO w.heap.size wr p cap t ∧ Below w.heap.size w wr

set_option maxHeartbeats 4000000 in
theorem parse_ok (s : ByteArray) (w : World) (hs : s.size ≤ 1200) (h0 : 0 < s.size) (hd : ∀ b ∈ bsOf s, isDig b = true) (hz : ¬ (1 < s.size ∧ (bsOf s)[0]? = some 48)) :
    Calls Tryz.prog 88 #[.string s] w (OkPost w (numOf (bsOf s))) := by
  have HD := Lib.hid (And.intro hd hz)
  clear hd hz
  go_enter Tryz.func88, Tryz.ntmps88
  go_wp2_with fail
  go_loop [17] (fun v => ∃ k : Nat, k ≤ s.size ∧ v = .int .i64 (k : Int)) (fun v => s.size - (intOf v).toNat)
  case atStart => exact ⟨0, Nat.zero_le _, rfl⟩
  case round =>
    obtain ⟨k, hk, rfl⟩ := hrel
    by_cases hlt : k < s.size
    · have hb := isDig_iff.1 (HD.out.1 _ (List.mem_of_getElem? (bsOf_get hlt)))
      have h1 : ¬ ((s[k].toNat : Int) < 48) := by omega
      have h2 : ¬ ((57 : Int) < (s[k].toNat : Int)) := by omega
      clear hb
      go_wp2_with fail
      go_round
      case rel => exact ⟨k + 1, by omega, by go_num⟩
      case measure => simp [intOf]; omega
    · obtain rfl : k = s.size := by omega
      have hz1 : s.size = 1 ∨ ∃ h : 1 < s.size, (((s[0]'(by omega)).toNat : Int) == 48) = false := by
        rcases Nat.lt_or_ge 1 s.size with h1 | h1
        · right
          refine ⟨h1, ?_⟩
          rw [beq_eq_false_iff_ne]
          intro e
          apply HD.out.2
          refine ⟨h1, ?_⟩
          rw [bsOf_get (by omega)]
          congr 1
          omega
        · left; omega
      clear hlt
      have hn0 : D32 0 = [] := D32_nil.2 rfl
      rcases hz1 with h1 | ⟨h1, hz2⟩
      · have h1' : decide ((1 : Int) < (s.size : Int)) = false := by rw [decide_eq_false_iff_not]; omega
        have h1'' : decide (1 < s.size) = false := by rw [decide_eq_false_iff_not]; omega
        have H1 := Lib.hid h1
        clear h1
        have HN0 := Lib.hid hn0
        clear hn0
        go_wp2_with fail
        go_loopw [5, 44] (fun v5 v44 wr => ParseRel w s v5 v44 wr) (fun _ v _ => s.size - (intOf v).toNat)
        case atStart => exact ⟨0, none, 0, [], Nat.zero_le _, rfl, rfl, rfl, (fun _ h => by cases h), Nat.zero_le _, NatO.nothing _ _, Below.refl _ _⟩
        case round =>
          obtain ⟨k, p, cap, t, hk, rfl, rfl, hv, hn, htl, ho, hb⟩ := hrel
          have HP := Lib.hid (And.intro hv (And.intro hn (And.intro ho hb)))
          have hwB : w.heap.size ≤ wr.heap.size := hb.size
          by_cases hlt : k < s.size
          · have hbd := isDig_iff.1 (HD.out.1 _ (List.mem_of_getElem? (bsOf_get hlt)))
            obtain ⟨d, hd⟩ : ∃ d, s[k].toNat = d + 48 := ⟨s[k].toNat - 48, by omega⟩
            have hd9 : d ≤ 9 := by omega
            have hst := numOf_take (bsOf_get hlt)
            have e48 : s[k].toNat - 48 = d := by omega
            rw [e48] at hst
            have HS := Lib.hid hst
            clear hv hn hb hst hbd e48
            go_wp2_with fail
            refine (extend_any (B := w.heap.size) p cap t 10 d _ hwB HP.out.2.2.1 (by omega) (by omega) (by omega)).mono ?_
            rintro e w1 ⟨p1, c1, t1, rfl, hv1, hl1, hn1, ho1, hb1⟩
            have HT := Lib.hid (And.intro hv1 (And.intro hn1 (And.intro ho1 (HP.out.2.2.2.trans hb1))))
            have hl1' : t1.length ≤ k + 1 := by omega
            clear hv1 hn1 ho1 hb1 hl1 hd
            go_wp2_with fail
            go_roundw
            case rel => exact ⟨k + 1, p1, c1, t1, by omega, by go_num, rfl, by rw [HT.out.1, HS.out, HP.out.1], HT.out.2.1 HP.out.2.1 (by omega), hl1', HT.out.2.2.1, HT.out.2.2.2⟩
            case measure => simp [intOf]; omega
          · obtain rfl : k = s.size := by omega
            have he : V32 t = numOf (bsOf s) := by
              have := HP.out.1
              rwa [List.take_of_length_le (by rw [bsOf_length]; exact Nat.le_refl _)] at this
            have ht : D32 (numOf (bsOf s)) = t := digs_unique (by omega) ho.ok hn he
            have HT := Lib.hid ht
            clear hv hn ho hb he ht
            go_wp2_with fail
            go_ret2
            exact ⟨p, cap, by rw [HT.out]; rfl, by rw [HT.out]; exact HP.out.2.2.1, HP.out.2.2.2⟩
      · have HN0 := Lib.hid hn0
        clear hn0
        go_wp2_with fail
        go_loopw [5, 44] (fun v5 v44 wr => ParseRel w s v5 v44 wr) (fun _ v _ => s.size - (intOf v).toNat)
        case atStart => exact ⟨0, none, 0, [], Nat.zero_le _, rfl, rfl, rfl, (fun _ h => by cases h), Nat.zero_le _, NatO.nothing _ _, Below.refl _ _⟩
        case round =>
          obtain ⟨k, p, cap, t, hk, rfl, rfl, hv, hn, htl, ho, hb⟩ := hrel
          have HP := Lib.hid (And.intro hv (And.intro hn (And.intro ho hb)))
          have hwB : w.heap.size ≤ wr.heap.size := hb.size
          by_cases hlt : k < s.size
          · have hbd := isDig_iff.1 (HD.out.1 _ (List.mem_of_getElem? (bsOf_get hlt)))
            obtain ⟨d, hd⟩ : ∃ d, s[k].toNat = d + 48 := ⟨s[k].toNat - 48, by omega⟩
            have hd9 : d ≤ 9 := by omega
            have hst := numOf_take (bsOf_get hlt)
            have e48 : s[k].toNat - 48 = d := by omega
            rw [e48] at hst
            have HS := Lib.hid hst
            clear hv hn hb hst hbd e48
            go_wp2_with fail
            refine (extend_any (B := w.heap.size) p cap t 10 d _ hwB HP.out.2.2.1 (by omega) (by omega) (by omega)).mono ?_
            rintro e w1 ⟨p1, c1, t1, rfl, hv1, hl1, hn1, ho1, hb1⟩
            have HT := Lib.hid (And.intro hv1 (And.intro hn1 (And.intro ho1 (HP.out.2.2.2.trans hb1))))
            have hl1' : t1.length ≤ k + 1 := by omega
            clear hv1 hn1 ho1 hb1 hl1 hd
            go_wp2_with fail
            go_roundw
            case rel => exact ⟨k + 1, p1, c1, t1, by omega, by go_num, rfl, by rw [HT.out.1, HS.out, HP.out.1], HT.out.2.1 HP.out.2.1 (by omega), hl1', HT.out.2.2.1, HT.out.2.2.2⟩
            case measure => simp [intOf]; omega
          · obtain rfl : k = s.size := by omega
            have he : V32 t = numOf (bsOf s) := by
              have := HP.out.1
              rwa [List.take_of_length_le (by rw [bsOf_length]; exact Nat.le_refl _)] at this
            have ht : D32 (numOf (bsOf s)) = t := digs_unique (by omega) ho.ok hn he
            have HT := Lib.hid ht
            clear hv hn ho hb he ht
            go_wp2_with fail
            go_ret2
            exact ⟨p, cap, by rw [HT.out]; rfl, by rw [HT.out]; exact HP.out.2.2.1, HP.out.2.2.2⟩
theorem new_err (pl : Int) (n : Nat) (w : World) (A : Nat → Addr) (hr : Roots w A) (hn : 1 ≤ n ∧ n ≤ 11) :
    Calls Tryz.prog 59 #[.string natOp, .int .i64 pl, .int .i64 (n : Int)] w fun e w' => e = .returned (Tree.fault w.heap.size natOp pl (.leaf (A n))).val ∧ Below w.heap.size w w' ∧ (Tree.fault w.heap.size natOp pl (.leaf (A n))).lies w' := by
  have hk : known (n : Int) = n := by unfold known; rw [if_pos (by omega)]; rfl
  refine (new_any natOp pl n w A hr (by omega)).mono fun e w' ⟨he, hb, _, hl⟩ => ?_
  rw [hk] at he hl
  exact ⟨he, hb, hl⟩

theorem findIdx_some {l : List Nat} {p : Nat → Bool} {i : Nat} (h : l.findIdx? p = some i) : ∃ b, l[i]? = some b ∧ p b = true ∧ ∀ j x, j < i → l[j]? = some x → p x = false := by
  obtain ⟨hi, h1, h2⟩ := List.findIdx?_eq_some_iff_getElem.1 h
  refine ⟨l[i], List.getElem?_eq_getElem hi, h1, fun j x hj hx => ?_⟩
  obtain ⟨hjl, rfl⟩ := List.getElem?_eq_some_iff.1 hx
  simpa using h2 j hj

theorem parse_big (s : ByteArray) (w : World) (A : Nat → Addr) (hr : Roots w A) (hs : 1200 < s.size) :
    Calls Tryz.prog 88 #[.string s] w (ErrPost w A 0 4) := by
  have HR := Lib.hid hr
  clear hr
  go_enter Tryz.func88, Tryz.ntmps88
  go_wp2_with fail
  refine (new_err 0 4 _ A HR.out (by omega)).mono ?_
  rintro e w1 ⟨rfl, hb1, hl1⟩
  have H := Lib.hid (And.intro hl1 hb1)
  clear hl1 hb1
  go_wp2_with fail
  go_ret2
  exact ⟨_, rfl, H.out.1, H.out.2⟩
theorem parse_none (w : World) (A : Nat → Addr) (hr : Roots w A) (s : ByteArray) (hs : s.size = 0) :
    Calls Tryz.prog 88 #[.string s] w (ErrPost w A 0 6) := by
  have HR := Lib.hid hr
  clear hr
  go_enter Tryz.func88, Tryz.ntmps88
  go_wp2_with fail
  refine (new_err 0 6 _ A HR.out (by omega)).mono ?_
  rintro e w1 ⟨rfl, hb1, hl1⟩
  have H := Lib.hid (And.intro hl1 hb1)
  clear hl1 hb1
  go_wp2_with fail
  go_ret2
  exact ⟨_, rfl, H.out.1, H.out.2⟩
set_option maxHeartbeats 1000000 in
theorem parse_letter (w : World) (A : Nat → Addr) (hr : Roots w A) (s : ByteArray) (hs : s.size ≤ 1200) (i : Nat) (hi : (bsOf s).findIdx? (fun b => !isDig b) = some i) :
    Calls Tryz.prog 88 #[.string s] w (ErrPost w A i 6) := by
  have HR := Lib.hid hr
  obtain ⟨b, hb, hbad, hall⟩ := findIdx_some hi
  have hil : i < s.size := by have := get_lt hb; rwa [bsOf_length] at this
  have hbs : b = (s[i]).toNat := by rw [bsOf_get hil] at hb; exact (Option.some.inj hb).symm
  have HI := Lib.hid (And.intro hbad (And.intro hall hbs))
  clear hr hi hb hbad hall hbs
  go_enter Tryz.func88, Tryz.ntmps88
  go_wp2_with fail
  go_loop [17] (fun v => ∃ k : Nat, k ≤ i ∧ v = .int .i64 (k : Int)) (fun v => s.size - (intOf v).toNat)
  case atStart => exact ⟨0, Nat.zero_le _, rfl⟩
  case round =>
    obtain ⟨k, hk, rfl⟩ := hrel
    by_cases hlt : k < i
    · have hks : k < s.size := by omega
      have hg : isDig (s[k]).toNat = true := by simpa using HI.out.2.1 k _ hlt (bsOf_get hks)
      have hb := isDig_iff.1 hg
      have h1 : ¬ ((s[k].toNat : Int) < 48) := by omega
      have h2 : ¬ ((57 : Int) < (s[k].toNat : Int)) := by omega
      clear hb hg
      go_wp2_with fail
      go_round
      case rel => exact ⟨k + 1, by omega, by go_num⟩
      case measure => simp [intOf]; omega
    · obtain rfl : k = i := by omega
      have hnd : ¬ (48 ≤ (s[k]).toNat ∧ (s[k]).toNat ≤ 57) := by
        intro h
        have h1 := isDig_iff.2 h
        have h2 := HI.out.1
        rw [HI.out.2.2, h1] at h2
        cases h2
      rcases Nat.lt_or_ge (s[k]).toNat 48 with h1 | h1
      · have h1' : ((s[k].toNat : Int) < 48) := by omega
        clear hnd
        go_wp2_with fail
        refine (new_err k 6 _ A HR.out (by omega)).mono ?_
        rintro e w1 ⟨rfl, hb1, hl1⟩
        have H := Lib.hid (And.intro hl1 hb1)
        clear hl1 hb1
        go_wp2_with fail
        go_ret2
        exact ⟨_, rfl, H.out.1, H.out.2⟩
      · have h2' : ((57 : Int) < (s[k].toNat : Int)) := by omega
        clear hnd
        go_wp2_with fail
        refine (new_err k 6 _ A HR.out (by omega)).mono ?_
        rintro e w1 ⟨rfl, hb1, hl1⟩
        have H := Lib.hid (And.intro hl1 hb1)
        clear hl1 hb1
        go_wp2_with fail
        go_ret2
        exact ⟨_, rfl, H.out.1, H.out.2⟩
set_option maxHeartbeats 1000000 in
theorem parse_zero (w : World) (A : Nat → Addr) (hr : Roots w A) (s : ByteArray) (hs : s.size ≤ 1200) (hd : ∀ b ∈ bsOf s, isDig b = true) (h1 : 1 < s.size) (hz : (bsOf s)[0]? = some 48) :
    Calls Tryz.prog 88 #[.string s] w (ErrPost w A 0 6) := by
  have HR := Lib.hid hr
  have HD := Lib.hid hd
  have hz0 : (s[0]'(by omega)).toNat = 48 := by rw [bsOf_get (by omega)] at hz; exact Option.some.inj hz
  have HZ := Lib.hid hz0
  clear hr hd hz hz0
  go_enter Tryz.func88, Tryz.ntmps88
  go_wp2_with fail
  go_loop [17] (fun v => ∃ k : Nat, k ≤ s.size ∧ v = .int .i64 (k : Int)) (fun v => s.size - (intOf v).toNat)
  case atStart => exact ⟨0, Nat.zero_le _, rfl⟩
  case round =>
    obtain ⟨k, hk, rfl⟩ := hrel
    by_cases hlt : k < s.size
    · have hb := isDig_iff.1 (HD.out _ (List.mem_of_getElem? (bsOf_get hlt)))
      have h1 : ¬ ((s[k].toNat : Int) < 48) := by omega
      have h2 : ¬ ((57 : Int) < (s[k].toNat : Int)) := by omega
      clear hb
      go_wp2_with fail
      go_round
      case rel => exact ⟨k + 1, by omega, by go_num⟩
      case measure => simp [intOf]; omega
    · obtain rfl : k = s.size := by omega
      have hz2 : (((s[0]'(by omega)).toNat : Int) == 48) = true := by rw [beq_iff_eq]; have := HZ.out; omega
      go_wp2_with fail
      refine (new_err 0 6 _ A HR.out (by omega)).mono ?_
      rintro e w1 ⟨rfl, hb1, hl1⟩
      have H := Lib.hid (And.intro hl1 hb1)
      clear hl1 hb1
      go_wp2_with fail
      go_ret2
      exact ⟨_, rfl, H.out.1, H.out.2⟩
/-- Parse where it refuses -/
theorem parse_err (s : ByteArray) (w : World) (A : Nat → Addr) (hr : Roots w A) (i k : Nat) (h : parseBad (bsOf s) = some (i, k)) :
    Calls Tryz.prog 88 #[.string s] w (ErrPost w A i k) := by
  unfold parseBad at h
  rw [bsOf_length] at h
  split at h
  · obtain ⟨rfl, rfl⟩ := Prod.mk.inj (Option.some.inj h)
    exact parse_big s w A hr ‹_›
  · split at h
    · obtain ⟨rfl, rfl⟩ := Prod.mk.inj (Option.some.inj h)
      exact parse_none w A hr s ‹_›
    · split at h
      · rename_i j hj
        obtain ⟨rfl, rfl⟩ := Prod.mk.inj (Option.some.inj h)
        exact parse_letter w A hr s (by omega) j hj
      · rename_i hj
        split at h
        · rename_i hz
          obtain ⟨rfl, rfl⟩ := Prod.mk.inj (Option.some.inj h)
          exact parse_zero w A hr s (by omega) (fun b hb => by simpa using findIdx_none hj b hb) hz.1 hz.2
        · cases h
/-- Parse where it does not -/
theorem parse_num (s : ByteArray) (w : World) (h : parseBad (bsOf s) = none) :
    Calls Tryz.prog 88 #[.string s] w (OkPost w (numOf (bsOf s))) := by
  unfold parseBad at h
  rw [bsOf_length] at h
  split at h
  · cases h
  · split at h
    · cases h
    · split at h
      · cases h
      · rename_i hj
        split at h
        · cases h
        · rename_i hz
          exact parse_ok s w (by omega) (by omega) (fun b hb => by simpa using findIdx_none hj b hb) hz
end Go.Proofs.YtfgoflaeclfggaaGreatDoor
end
section
namespace Go.Proofs.YtfgoflaeclfggaaGreatDoor.NatM
/-! ### a limb less a limb, with a borrow -/
theorem bit31 {x : Nat} (hx : x < 4294967296) : Nat.testBit x 31 = decide (2147483648 ≤ x) := by
  rw [Nat.testBit_eq_decide_div_mod_eq]
  congr 1
  have : 2 ^ 31 = 2147483648 := by decide
  rw [this]
  apply propext
  omega
theorem div31 {t : Nat} (ht : t < 4294967296) : t / 2147483648 = if Nat.testBit t 31 then 1 else 0 := by
  rw [bit31 ht]
  by_cases h : 2147483648 ≤ t
  · rw [decide_eq_true h, if_pos rfl]; omega
  · rw [decide_eq_false h]; simp; omega
theorem not31 {x : Nat} (hx : x < 4294967296) : Nat.testBit (4294967295 - x) 31 = !Nat.testBit x 31 := by
  have h := Nat.testBit_two_pow_sub_succ (n := 32) hx 31
  have e : 2 ^ 32 - (x + 1) = 4294967295 - x := by omega
  rw [e] at h
  rw [h]
  simp
theorem sub_borrow {x y c d : Nat} (hx : x < 4294967296) (hy : y < 4294967296) (hc : c ≤ 1) (hd : d = (x + 8589934592 - y - c) % 4294967296) :
    (((4294967295 - x) &&& y) ||| ((4294967295 - (x ^^^ y)) &&& d)) / 2147483648 = if x < y + c then 1 else 0 := by
  have hdl : d < 4294967296 := by omega
  have hxy : x ^^^ y < 2 ^ 32 := Nat.xor_lt_two_pow hx hy
  have h1 : (4294967295 - x) &&& y < 2 ^ 32 := Nat.and_lt_two_pow _ hy
  have h2 : (4294967295 - (x ^^^ y)) &&& d < 2 ^ 32 := Nat.and_lt_two_pow _ hdl
  rw [div31 (Nat.or_lt_two_pow h1 h2), Nat.testBit_or, Nat.testBit_and, Nat.testBit_and, not31 hx, not31 hxy, Nat.testBit_xor, bit31 hx, bit31 hy, bit31 hdl]
  by_cases a : 2147483648 ≤ x <;> by_cases b : 2147483648 ≤ y <;> by_cases e : 2147483648 ≤ d <;> by_cases f : x < y + c <;> simp [a, b, e, f] <;> omega
/-- Where a difference stands when k limbs of m have been taken from a. -/
structure DInv (B : Nat) (a m : List Nat) (k c : Nat) (t : List Nat) : Prop where
  ok : okB B t
  len : t.length = a.length
  car : c ≤ 1
  rest : t.drop k = a.drop k
  val : valB B (t.take k) + valB B (m.take k) = valB B (a.take k) + B ^ k * c
theorem DInv.start {B : Nat} {a m : List Nat} (ha : okB B a) : DInv B a m 0 0 a := ⟨ha, rfl, by omega, rfl, by simp [valB]⟩
theorem sub_step {T M A P x y c r q B : Nat} (h1 : T + M = A + P * c) (h2 : r + y + c = x + B * q) : T + P * r + (M + P * y) = A + P * x + P * B * q := by
  have e : P * (r + y + c) = P * (x + B * q) := by rw [h2]
  rw [Nat.mul_add, Nat.mul_add, Nat.mul_add, ← Nat.mul_assoc] at e
  omega
theorem DInv.step {B : Nat} {a m : List Nat} {k c x r q : Nat} {t : List Nat} (h : DInv B a m k c t) (hx : a[k]? = some x) (hr : r < B) (hq : q ≤ 1) (he : r + limbAt m k + c = x + B * q) :
    DInv B a m (k + 1) q (t.set k r) := by
  have hxt : t[k]? = some x := (get_of_drop h.rest).trans hx
  refine ⟨okB_set h.ok hr _, by rw [List.length_set]; exact h.len, hq, by rw [drop_set_succ]; exact drop_succ_of h.rest, ?_⟩
  rw [set_takeq hxt, valB_snoc, List.length_take, Nat.min_eq_left (by have := get_lt hxt; omega), valB_take_limb, valB_takeq B hx, Nat.pow_succ]
  exact sub_step h.val he
/-- While something is left to take away, the number is long enough. -/
theorem DInv.long {B : Nat} (hB : 2 ≤ B) {a m : List Nat} (ha : okB B a) (hmn : nrm m) (hle : valB B m ≤ valB B a) {k c : Nat} {t : List Nat} (h : DInv B a m k c t) (hgo : k < m.length ∨ c ≠ 0) : k < a.length := by
  rcases Nat.lt_or_ge k a.length with h1 | h1
  · exact h1
  · exfalso
    have hv := h.val
    rw [valB_take_all B h1, show t.take k = t by rw [List.take_of_length_le (by rw [h.len]; exact h1)]] at hv
    have h2 := valB_lt (B := B) (by omega) h.ok
    rw [h.len] at h2
    have h3 : B ^ a.length ≤ B ^ k := Nat.pow_le_pow_right (by omega) h1
    rcases Nat.eq_zero_or_pos c with hc | hc
    · have hk : k < m.length := by omega
      have h4 := valB_split B m k (by omega)
      have h5 := valB_pos hB hmn (List.length_pos_iff.1 (by omega))
      have h6 := ge_of_nrm hB hmn (List.length_pos_iff.1 (by omega))
      have h7 : B ^ k ≤ B ^ (m.length - 1) := Nat.pow_le_pow_right (by omega) (by omega)
      have h8 := valB_lt (B := B) (by omega) ha
      omega
    · have h4 := valB_take_le B m k
      have h5 : B ^ k * 1 ≤ B ^ k * c := Nat.mul_le_mul_left _ hc
      omega
theorem DInv.done {B : Nat} {a m : List Nat} {k : Nat} {t : List Nat} (h : DInv B a m k 0 t) (hk : m.length ≤ k) (hka : k ≤ a.length) : valB B t = valB B a - valB B m ∧ valB B m ≤ valB B a := by
  have hv := h.val
  rw [valB_take_all B hk] at hv
  have h1 := valB_split B t k (by rw [h.len]; exact hka)
  have h2 := valB_split B a k hka
  rw [h.rest] at h1
  simp at hv
  omega
end Go.Proofs.YtfgoflaeclfggaaGreatDoor.NatM
end
section
namespace Go.Proofs.YtfgoflaeclfggaaGreatDoor
open Go.RowKit Go.Extern.Stop Go.Stop Go.Extern NatM

/-- the borrow of a limb less a limb -/
def bor (x y c : Nat) : Nat := if x < y + c then 1 else 0
theorem bor_le (x y c : Nat) : bor x y c ≤ 1 := by unfold bor; split <;> omega
theorem xor_max {x : Nat} (hx : x < 4294967296) : 4294967295 ^^^ x = 4294967295 - x := by
  apply Nat.eq_of_testBit_eq
  intro i
  have h := Nat.testBit_two_pow_sub_succ (n := 32) hx i
  rw [show 2 ^ 32 - (x + 1) = 4294967295 - x by omega] at h
  rw [h, Nat.testBit_xor, show (4294967295 : Nat) = 2 ^ 32 - 1 by decide, Nat.testBit_two_pow_sub_one]
  by_cases hi : i < 32
  · simp [hi]
  · have : Nat.testBit x i = false := Nat.testBit_lt_two_pow (Nat.lt_of_lt_of_le hx (by
      have : 2 ^ 32 ≤ 2 ^ i := Nat.pow_le_pow_right (by omega) (by omega)
      omega))
    simp [hi, this]
theorem not_u32 (x : Nat) (hx : x < 4294967296) : bits .xor .u32 IntKind.u32.max (x : Int) = ((4294967295 - x : Nat) : Int) := by
  have h := u32_xor_nat 4294967295 x (by omega) hx
  rw [xor_max hx] at h
  exact h
theorem ret_u32s {a b a' b' : Int} (h : a = a') (h' : b = b') : Ending.returned (.tuple #[.int .u32 a, .int .u32 b]) = Ending.returned (.tuple #[.int .u32 a', .int .u32 b']) := by rw [h, h']
theorem bor_eq {x y c : Nat} (hx : x < 4294967296) (hy : y < 4294967296) (hc : c ≤ 1) : (x + 8589934592 - y - c) % 4294967296 + y + c = x + 4294967296 * bor x y c := by
  unfold bor
  split <;> omega

def DI (a m : List Nat) (k c : Nat) (t : List Nat) : Prop := DInv 4294967296 a m k c t
def SubRel (w : World) (p : Option Addr) (cap : Nat) (a m : List Nat) (gk : Nat) (v7 v8 : Value) (wr : World) : Prop :=
  ∃ (k c : Nat) (t : List Nat), k ≤ a.length ∧ v7 = .int .u32 (c : Int) ∧ v8 = .int .i64 (k : Int) ∧ DI a m k c t ∧ NatO w.heap.size wr p cap t ∧ Below w.heap.size w wr ∧ a.length - k ≤ gk

end Go.Proofs.YtfgoflaeclfggaaGreatDoor
end
section
namespace Go.Proofs.YtfgoflaeclfggaaGreatDoor
open Go.RowKit NatM

/-- a slice literal of limbs, just laid -/
theorem NatV.laid {w : World} (l : List Nat) (cs : Array Value) (t : TypeId) (hc : cs.toList = cells32 l) (hl : l.length ≤ 1000) (ok : ok32 l) :
    NatV (w.alloc (.cells cs t)).heap.size (w.alloc (.cells cs t)) (some ⟨w.heap.size, 0, none⟩) l.length l := by
  refine ⟨ok, Nat.le_refl _, by unfold maxLen; omega, (fun h => by cases h), fun _ => ⟨w.heap.size, 0, rfl, by simp, fun j x hx => ?_⟩⟩
  rw [Nat.zero_add, cell_alloc_row, ← Array.getElem?_toList, hc]
  exact cells32_get hx
theorem ok_of {l : List Nat} (h : l.all (fun x => decide (x < 4294967296)) = true) : ok32 l := fun x hx => by simpa using List.all_eq_true.1 h x hx
theorem nrm_of {l : List Nat} (h : (l.getLast? == some 0) = false) : nrm l := fun x hx e => by subst e; rw [hx] at h; simp at h
theorem D32_of {l : List Nat} {n : Nat} (ho : l.all (fun x => decide (x < 4294967296)) = true) (hn : (l.getLast? == some 0) = false) (hv : V32 l = n) : D32 n = l := digs_unique (by omega) (ok_of ho) (nrm_of hn) hv
theorem D10_of {l : List Nat} {n : Nat} (ho : l.all (fun x => decide (x < 10)) = true) (hn : (l.getLast? == some 0) = false) (hv : valB 10 l = n) : digs 10 n = l := digs_unique (by omega) (fun x hx => by simpa using List.all_eq_true.1 ho x hx) (nrm_of hn) hv

theorem nats_eq (p q : Option Addr) (n m c d : Nat) (l : List Nat) (w : World) (hn : n = l.length) (hm : m = l.length) (h : NatV w.heap.size w p c l) (k : NatV w.heap.size w q d l) :
    Calls Tryz.prog 26 #[.slice p n c, .slice q m d] w (Tells (.bool true) w) := by
  subst hn hm
  exact nats_same p q c d l w h k
theorem text_eq (p : Option Addr) (n cap : Nat) (l : List Nat) (w : World) (hn : n = l.length) (h : NatV w.heap.size w p cap l) (hl : l.length ≤ 100000) :
    Calls Tryz.prog 96 #[.slice p n cap] w (Tells (.string (textOf (V32 l))) w) := by
  subst hn
  exact text_any p cap l w h hl
theorem mul_eq (p q : Option Addr) (n k c d : Nat) (l m : List Nat) (w : World) (hn : n = l.length) (hk : k = m.length) (h : NatV w.heap.size w p c l) (h' : NatV w.heap.size w q d m) (hl : l.length ≤ 100000) (hm : m.length ≤ 100000) :
    Calls Tryz.prog 72 #[.slice p n c, .slice q k d] w (NatPost w (V32 l * V32 m)) := by
  subst hn hk
  exact mul_any p q c d l m w h h' hl hm
def bigText : ByteArray := { data := #[52, 50, 57, 52, 57, 54, 55, 50, 57, 54] }
theorem D32_big : D32 4294967296 = [0, 1] := D32_of (by decide) (by decide) (by decide)
theorem D32_15 : D32 15 = [15] := D32_of (by decide) (by decide) (by decide)
theorem text_big : textOf 4294967296 = bigText := by
  unfold textOf decL
  rw [if_neg (by decide), D10_of (l := [6, 9, 2, 7, 6, 9, 4, 9, 2, 4]) (by decide) (by decide) (by decide)]
  rfl
theorem parse_big_none : parseBad (bsOf bigText) = none := by decide +kernel
theorem list_big : (bigText.toList == [52, 50, 57, 52, 57, 54, 55, 50, 57, 54]) = true := by decide +kernel
theorem num_big : numOf (bsOf bigText) = 4294967296 := by decide +kernel


/-- long: is one of them longer than 400 limbs? -/
def longB (L : List Nt) : Bool := L.any fun x => decide (400 < x.2.2.length)
end Go.Proofs.YtfgoflaeclfggaaGreatDoor
end
section
namespace Go.Proofs.YtfgoflaeclfggaaGreatDoor.NatM
/-! ### binary digits -/
theorem len2_lt (n : Nat) : n < 2 ^ (digs 2 n).length := by
  have := valB_lt (B := 2) (by omega) (digs_ok (by omega) n)
  rwa [valB_digs (by omega)] at this
theorem len2_ge {n : Nat} (h : 0 < n) : 2 ^ ((digs 2 n).length - 1) ≤ n := by
  have hne : digs 2 n ≠ [] := fun e => by have := (digs_eq_nil (B := 2) (by omega)).1 e; omega
  have := ge_of_nrm (B := 2) (by omega) (digs_nrm (by omega) n) hne
  rwa [valB_digs (by omega)] at this
theorem len2_unique {n k : Nat} (h1 : 2 ^ (k - 1) ≤ n) (h2 : n < 2 ^ k) : (digs 2 n).length = k := by
  have h0 : 0 < n := Nat.lt_of_lt_of_le (Nat.pow_pos (by omega)) h1
  have a := len2_lt n
  have b := len2_ge h0
  rcases Nat.lt_trichotomy (digs 2 n).length k with h | h | h
  · have : 2 ^ (digs 2 n).length ≤ 2 ^ (k - 1) := Nat.pow_le_pow_right (by omega) (by omega)
    omega
  · exact h
  · have : 2 ^ k ≤ 2 ^ ((digs 2 n).length - 1) := Nat.pow_le_pow_right (by omega) (by omega)
    omega
theorem len2_pow (k : Nat) : (digs 2 (2 ^ k)).length = k + 1 := by
  apply len2_unique
  · exact Nat.le_refl _
  · rw [Nat.pow_succ]; have := Nat.pow_pos (n := k) (by omega : 0 < 2); omega
theorem len2_succ {x : Nat} (h : 0 < x) : (digs 2 x).length = 1 + (digs 2 (x / 2)).length := by
  rw [digs_pos (by omega) h, List.length_cons]; omega
/-- The bits of a number are those of its last limb, and b more for each limb below. -/
theorem len2_top (b : Nat) {l : List Nat} (ho : okB (2 ^ b) l) (hn : nrm l) {x : Nat} (hx : l[l.length - 1]? = some x) : (digs 2 (valB (2 ^ b) l)).length = b * (l.length - 1) + (digs 2 x).length := by
  have hl := get_lt hx
  have hx0 : 0 < x := by
    have := hn x (by rw [List.getLast?_eq_getElem?]; exact hx)
    omega
  have h1 := valB_takeq (2 ^ b) hx
  rw [show l.length - 1 + 1 = l.length by omega, List.take_length] at h1
  have h2 := valB_lt (B := 2 ^ b) (Nat.pow_pos (by omega)) (okB_take ho (l.length - 1))
  rw [List.length_take, Nat.min_eq_left (by omega)] at h2
  have h3 := len2_lt x
  have h4 := len2_ge hx0
  have hlen : 0 < (digs 2 x).length := List.length_pos_iff.2 (fun e => by have := (digs_eq_nil (B := 2) (by omega)).1 e; omega)
  have e : (2 ^ b) ^ (l.length - 1) = 2 ^ (b * (l.length - 1)) := (Nat.pow_mul 2 b _).symm
  rw [e] at h1 h2
  apply len2_unique
  · rw [show b * (l.length - 1) + (digs 2 x).length - 1 = b * (l.length - 1) + ((digs 2 x).length - 1) by omega, Nat.pow_add, h1]
    have := Nat.mul_le_mul_left (2 ^ (b * (l.length - 1))) h4
    omega
  · rw [Nat.pow_add, h1]
    have : 2 ^ (b * (l.length - 1)) * (x + 1) ≤ 2 ^ (b * (l.length - 1)) * 2 ^ (digs 2 x).length := Nat.mul_le_mul_left _ h3
    rw [Nat.mul_add] at this
    omega
end Go.Proofs.YtfgoflaeclfggaaGreatDoor.NatM
end
section
namespace Go.Proofs.YtfgoflaeclfggaaGreatDoor
open Go.RowKit Go.Extern.Stop Go.Stop Go.Extern NatM

theorem NatO.laid (w : World) (l : List Nat) (cs : Array Value) (n : Nat) (hn : n = l.length) (hc : cs.toList = cells32 l) (hl : l.length ≤ 1000) (ok : ok32 l) : NatO w.heap.size (w.alloc (.cells cs 51)) (some ⟨w.heap.size, 0, none⟩) n l := by
  have hs : cs.size = l.length := by rw [← Array.length_toList, hc, cells32_length]
  subst hn
  refine ⟨⟨by rw [cells32_length, Nat.mul_one], Or.inr ⟨w.heap.size, l.length, cs, rfl, Nat.le_refl _, heap_newN _ _, Nat.le_refl _, by unfold maxLen; omega, by rw [hs, Nat.mul_one], ?_⟩⟩, ok⟩
  rw [hc, Nat.mul_one, List.take_of_length_le (by rw [cells32_length]; exact Nat.le_refl _)]

/-- quotient, rest and no error -/
def OverPost (w : World) (n d : Nat) (e : Ending) (w' : World) : Prop :=
  ∃ p c, e = .returned (.tuple #[.slice p (D32 (n / d)).length c, .int .u32 ((n % d : Nat) : Int), .nilIface]) ∧ NatO w.heap.size w' p c (D32 (n / d)) ∧ Below w.heap.size w w'
set_option maxRecDepth 100000 in
set_option maxHeartbeats 1000000 in
theorem over_any (p : Option Addr) (c : Nat) (l : List Nat) (d : Nat) (w : World) (h : NatV w.heap.size w p c l) (hl : l.length ≤ 100000) (hd : 0 < d) (hdl : d < 4294967296) :
    Calls Tryz.prog 78 #[.slice p l.length c, .int .u32 (d : Int)] w (OverPost w (V32 l) d) := by
  have H := Lib.hid h
  have hal : (D32 (V32 l)).length ≤ 100000 := Nat.le_trans (D32_le h.ok) hl
  have hd0 : ((d : Int) == 0) = false := by rw [beq_eq_false_iff_ne]; omega
  clear h
  go_enter Tryz.func78, Tryz.ntmps78
  go_wp2_with fail
  refine (trim_any p c l _ H.out).mono ?_
  rintro e w' ⟨rfl, rfl⟩
  go_wp2_with fail
  refine (clone_any p c (D32 (V32 l)) _ H.out.trim (by omega)).mono ?_
  rintro e w2 ⟨p2, c2, rfl, ho, hb2⟩
  have HO := Lib.hid (And.intro ho hb2)
  clear ho hb2
  go_wp2_with fail
  refine (divide_any (B := w.heap.size) p2 c2 (D32 (V32 l)) d _ HO.out.1 hd hdl).mono ?_
  rintro e w3 ⟨rfl, ⟨t, htv, htl, hto⟩, honly⟩
  rw [V32_D32] at htv ⊢
  have hB3 : Below w.heap.size w w3 := by
    refine HO.out.2.trans (honly.below HO.out.2.size fun x hx => ?_)
    rcases Nat.eq_zero_or_pos (D32 (V32 l)).length with h0 | h0
    · rcases own_shape HO.out.1.own with ⟨hv, _, _⟩ | ⟨g, cap, hv, hg, _⟩
      · have : p2 = none := by have h := hv; simp at h; exact h.1
        rw [this] at hx; cases hx
      · have : p2 = some ⟨g, 0, none⟩ := by have h := hv; simp at h; exact h.1
        rw [this] at hx
        have := Option.some.inj hx
        subst this
        exact hg
    · obtain ⟨g, hg, hgb, _⟩ := HO.out.1.shape h0
      rw [hg] at hx
      have := Option.some.inj hx
      subst this
      exact hgb
  have ht := trim_any _ _ t w3 hto.toV
  have hot := hto.trim
  rw [htv] at ht hot
  rw [htl] at ht
  obtain ⟨r, hr⟩ : ∃ r, V32 l % d = r := ⟨_, rfl⟩
  have HR := Lib.hid hr
  have HT := Lib.hid (And.intro ht (And.intro hot hB3))
  rw [hr]
  clear ht hot hB3 hto honly htv htl hr
  go_wp2_with fail
  refine HT.out.1.mono ?_
  rintro e w' ⟨rfl, rfl⟩
  go_wp2_with fail
  go_ret3
  exact ⟨_, _, by rw [HR.out]; rfl, HT.out.2.1, HT.out.2.2⟩

/-- nothing, no rest, and an error -/
def OverErr (w : World) (A : Nat → Addr) (e : Ending) (w' : World) : Prop :=
  ∃ b, e = .returned (.tuple #[.slice none 0 0, .int .u32 0, (Tree.fault b natOp 0 (.leaf (A 3))).val]) ∧ (Tree.fault b natOp 0 (.leaf (A 3))).lies w' ∧ Below w.heap.size w w'
theorem over_zero (p : Option Addr) (n c : Nat) (w : World) (A : Nat → Addr) (hr : Roots w A) :
    Calls Tryz.prog 78 #[.slice p n c, .int .u32 0] w (OverErr w A) := by
  have HR := Lib.hid hr
  clear hr
  go_enter Tryz.func78, Tryz.ntmps78
  go_wp2_with fail
  refine (new_err 0 3 _ A HR.out (by omega)).mono ?_
  rintro e w2 ⟨rfl, hb2, hl2⟩
  have H := Lib.hid (And.intro hl2 hb2)
  clear hl2 hb2
  go_wp2_with fail
  go_ret3
  exact ⟨_, rfl, H.out.1, H.out.2⟩

set_option maxRecDepth 100000 in
theorem from_any (x : Nat) (w : World) (hx : x < 18446744073709551616) :
    Calls Tryz.prog 70 #[.int .u64 (x : Int)] w (NatPost w x) := by
  have ok : ok32 [x % 4294967296, x / 4294967296] := fun y hy => by
    simp only [List.mem_cons, List.not_mem_nil, or_false] at hy
    rcases hy with rfl | rfl <;> omega
  have ho := NatO.laid w [x % 4294967296, x / 4294967296] #[.int .u32 ((x % 4294967296 : Nat) : Int), .int .u32 ((x / 4294967296 : Nat) : Int)] 2 rfl rfl (by simp) ok
  have hv : V32 [x % 4294967296, x / 4294967296] = x := by simp only [V32, valB]; omega
  have ht := trim_any _ _ _ _ ho.toV
  have hot := ho.trim
  rw [hv] at ht hot
  have HB : Hid (Below w.heap.size w (w.alloc (.cells #[.int .u32 ((x % 4294967296 : Nat) : Int), .int .u32 ((x / 4294967296 : Nat) : Int)] 51))) := (Below.refl _ _).alloc (Nat.le_refl _) _
  have HT := Lib.hid (And.intro ht hot)
  clear ok ho hv ht hot
  go_enter Tryz.func70, Tryz.ntmps70
  go_wp2_with fail
  refine HT.out.1.mono ?_
  rintro e w' ⟨rfl, rfl⟩
  go_wp2_with fail
  go_ret
  exact ⟨_, _, rfl, HT.out.2, HB.out⟩

theorem pow_neg (k : Int) (n : Int) (hn : n < 0) (w : World) (A : Nat → Addr) (hr : Roots w A) :
    Calls Tryz.prog 76 #[.int .u32 k, .int .i64 n] w (ErrPost w A 0 3) := by
  have HR := Lib.hid hr
  clear hr
  go_enter Tryz.func76, Tryz.ntmps76
  go_wp2_with fail
  refine (new_err 0 3 _ A HR.out (by omega)).mono ?_
  rintro e w2 ⟨rfl, hb2, hl2⟩
  have H := Lib.hid (And.intro hl2 hb2)
  clear hl2 hb2
  go_wp2_with fail
  go_ret2
  exact ⟨_, rfl, H.out.1, H.out.2⟩
theorem pow_big (k : Int) (n : Int) (hn : 1024 < n) (w : World) (A : Nat → Addr) (hr : Roots w A) :
    Calls Tryz.prog 76 #[.int .u32 k, .int .i64 n] w (ErrPost w A 0 4) := by
  have HR := Lib.hid hr
  have h0 : ¬ n < 0 := by omega
  clear hr
  go_enter Tryz.func76, Tryz.ntmps76
  go_wp2_with fail
  refine (new_err 0 4 _ A HR.out (by omega)).mono ?_
  rintro e w2 ⟨rfl, hb2, hl2⟩
  have H := Lib.hid (And.intro hl2 hb2)
  clear hl2 hb2
  go_wp2_with fail
  go_ret2
  exact ⟨_, rfl, H.out.1, H.out.2⟩

def PowRel (w : World) (k : Nat) (n : Nat) (v6 v15 : Value) (wr : World) : Prop :=
  ∃ (i : Nat) (p : Option Addr) (c : Nat) (t : List Nat), i ≤ n ∧ v15 = .int .i64 (i : Int) ∧ v6 = .slice p t.length c ∧ V32 t = k ^ i ∧ t.length ≤ i + 1 ∧ NatO w.heap.size wr p c t ∧ Below w.heap.size w wr
theorem D32_1 : D32 1 = [1] := D32_of (by decide) (by decide) (by decide)
set_option maxRecDepth 100000 in
set_option maxHeartbeats 1000000 in
theorem pow_any (k n : Nat) (hk : k < 4294967296) (hn : n ≤ 1024) (w : World) :
    Calls Tryz.prog 76 #[.int .u32 (k : Int), .int .i64 (n : Int)] w (OkPost w (k ^ n)) := by
  go_enter Tryz.func76, Tryz.ntmps76
  go_wp2_with fail
  refine (from_any 1 _ (by omega)).mono ?_
  rintro e w1 ⟨p1, c1, rfl, ho1, hb1⟩
  rw [D32_1] at ho1 ⊢
  have H1 := Lib.hid (And.intro ho1 hb1)
  clear ho1 hb1
  go_wp2_with fail
  go_loopw [6, 15] (fun v6 v15 wr => PowRel w k n v6 v15 wr) (fun _ v _ => n - (intOf v).toNat)
  case atStart => exact ⟨0, p1, c1, [1], Nat.zero_le _, rfl, rfl, by rw [Nat.pow_zero]; rfl, by simp, H1.out.1, H1.out.2⟩
  case round =>
    obtain ⟨i, p, c, t, hi, rfl, rfl, hv, hl, ho, hb⟩ := hrel
    have hwB : w.heap.size ≤ wr.heap.size := hb.size
    have HP := Lib.hid (And.intro hv (And.intro ho hb))
    by_cases hlt : i < n
    · clear hv ho hb
      go_wp2_with fail
      refine (extend_any (B := w.heap.size) p c t k 0 _ hwB HP.out.2.1 hk (by omega) (by omega)).mono ?_
      rintro e w2 ⟨p2, c2, t2, rfl, hv2, hl2, _, ho2, hb2⟩
      have H2 := Lib.hid (And.intro hv2 (And.intro ho2 (HP.out.2.2.trans hb2)))
      have hl3 : t2.length ≤ i + 2 := by omega
      clear hv2 ho2 hb2 hl2
      go_wp2_with fail
      go_roundw
      case rel => exact ⟨i + 1, p2, c2, t2, by omega, by go_num, rfl, by rw [H2.out.1, HP.out.1, Nat.pow_succ]; omega, by omega, H2.out.2.1, H2.out.2.2⟩
      case measure => simp [intOf]; omega
    · obtain rfl : i = n := by omega
      have ht := trim_any _ _ t wr ho.toV
      have hot := ho.trim
      rw [hv] at ht hot
      have HT := Lib.hid (And.intro ht hot)
      clear ht hot hv ho hb
      go_wp2_with fail
      refine HT.out.1.mono ?_
      rintro e w' ⟨rfl, rfl⟩
      go_wp2_with fail
      go_ret2
      exact ⟨_, _, rfl, HT.out.2, HP.out.2.2⟩

/-- the number of binary digits -/
def bits2 (n : Nat) : Nat := (digs 2 n).length
end Go.Proofs.YtfgoflaeclfggaaGreatDoor
end
section
namespace Go.Proofs.YtfgoflaeclfggaaGreatDoor
open Go.RowKit NatM

theorem half_len {l : List Nat} (h : ok32 l) : (D16 (V32 l)).length ≤ 2 * l.length := by
  have e : V16 (half l) = V32 l := half_val l
  have := D16_le (half_ok h)
  rw [e, half_length] at this
  exact this
theorem digs_le_iff {B : Nat} (hB : 2 ≤ B) (n k : Nat) : (digs B n).length ≤ k ↔ n < B ^ k := by
  constructor
  · intro h
    have h1 := valB_lt (B := B) (by omega) (digs_ok hB n)
    rw [valB_digs hB] at h1
    exact Nat.lt_of_lt_of_le h1 (Nat.pow_le_pow_right (by omega) h)
  · exact digs_length_le hB

set_option maxRecDepth 100000 in
set_option maxHeartbeats 1000000 in
theorem norm_any (p : Option Addr) (c : Nat) (l : List Nat) (w : World) (h : NatV w.heap.size w p c l) (hl : l.length ≤ 1048576) :
    Calls Tryz.prog 81 #[.slice p l.length c] w (NatPost w (V32 l)) := by
  have HT := Lib.hid (half_any p c l w h hl)
  have hlen := half_len h.ok
  obtain ⟨n, hn⟩ : ∃ n, V32 l = n := ⟨_, rfl⟩
  rw [hn] at HT hlen ⊢
  clear h hn
  go_enter Tryz.func81, Tryz.ntmps81
  go_wp2_with fail
  refine HT.out.mono ?_
  rintro e w1 ⟨p1, c1, rfl, ho1, hb1⟩
  have HO := Lib.hid (And.intro ho1 hb1)
  have hw := whole_any p1 c1 (D16 n) w1 ho1.toV (D16_ok n) (by omega)
  rw [V16_D16] at hw
  clear ho1 hb1
  go_wp2_with fail
  refine hw.mono ?_
  rintro e w2 ⟨p2, c2, rfl, ho2, hb2⟩
  have HW := Lib.hid (And.intro ho2 hb2)
  clear hw ho2 hb2
  go_wp2_with fail
  go_ret
  exact ⟨p2, c2, rfl, HW.out.1.base HO.out.2.size, HO.out.2.trans (HW.out.2.mono HO.out.2.size)⟩

/-- is the number less than 2^64? -/
def fitsB (n : Nat) : Bool := decide (n < 18446744073709551616)

def FromRel (B : Nat) (w : World) (n : Nat) (v0 v3 : Value) (wr : World) : Prop :=
  ∃ (x : Nat) (t : List Nat) (p : Option Addr) (cap : Nat), v0 = .int .u64 (x : Int) ∧ v3 = .slice p t.length cap ∧ V16 t + 65536 ^ t.length * x = n ∧ okB 65536 t ∧ NatO B wr p cap t ∧ Below B w wr ∧ t.length ≤ 4
set_option maxRecDepth 100000 in
set_option maxHeartbeats 4000000 in
theorem from_ref (n : Nat) (w : World) (hn : n < 18446744073709551616) :
    Calls Tryz.prog 75 #[.int .u64 (n : Int)] w (NatPost w n) := by
  obtain ⟨i0, hi, hz0, hz1, hz2⟩ := info_parts info32
  go_enter Tryz.func75, Tryz.ntmps75
  go_wp2_with fail
  go_loopw [0, 3] (fun v0 v3 wr => FromRel w.heap.size w n v0 v3 wr) (fun v _ _ => (intOf v).toNat)
  case atStart => exact ⟨n, [], none, 0, rfl, rfl, by simp [V16, valB], okB_nil _, ⟨World.ownsRow_nil _ _ _ _, okB_nil _⟩, Below.refl _ _, by simp⟩
  case round =>
    obtain ⟨x, t, q, cap, rfl, rfl, hv, hok, ho, hb, ht4⟩ := hrel
    have hwB : w.heap.size ≤ wr.heap.size := hb.size
    have hown := ho.own
    by_cases hx0 : 0 < x
    · have htl : t.length < 4 := by
        rcases Nat.lt_or_ge t.length 4 with h | h
        · exact h
        · exfalso
          have h1 : 65536 ^ 4 ≤ 65536 ^ t.length := Nat.pow_le_pow_right (by omega) h
          have h2 : 65536 ^ t.length * 1 ≤ 65536 ^ t.length * x := Nat.mul_le_mul_left _ hx0
          rw [show 65536 ^ 4 = 18446744073709551616 by decide] at h1
          omega
      have hxn : x < 18446744073709551616 := by
        have h1 : 0 < 65536 ^ t.length := Nat.pow_pos (by omega)
        have h2 : 1 * x ≤ 65536 ^ t.length * x := Nat.mul_le_mul_right _ h1
        omega
      have hv2 : V16 (t ++ [x % 65536]) + 65536 ^ (t ++ [x % 65536]).length * (x / 65536) = n := by
        show valB 65536 _ + _ = n
        rw [valB_snoc, List.length_append, List.length_singleton, Nat.pow_succ, Nat.mul_assoc, Nat.add_assoc, ← Nat.mul_add, Nat.mod_add_div]
        exact hv
      have hok2 : okB 65536 (t ++ [x % 65536]) := okB_snoc hok (by omega)
      have HH := Lib.hid (And.intro hv2 (And.intro hok2 (And.intro ho.ok hb)))
      clear hv hok ho hb hv2 hok2
      go_wp2_with (at_builtin; refine wpList_append_own _ rfl _ _ 25 rfl w.heap.size 51 i0 (.int .u32 0) 1 4 Tryz.underlying25 hi hz0 hz1 hz2 rfl (by decide) _ t.length (cells32 t) rfl (hown.alloc _) ⟨wr.heap.size, 0, none⟩ 1 1 _ rfl rfl (cell_one_new _ _ _) ?c2 ?c3 ?c4 ?c5 ?_)
      case c2 => intro u hu; simp at hu; subst hu; rfl
      case c3 => unfold maxLen; omega
      case c4 => omega
      case c5 => simp; omega
      intro v' w1 hown' hgrow _
      rw [show ((x : Int) % 65536) = ((x % 65536 : Nat) : Int) by omega] at hown'
      obtain ⟨q', cap', rfl, ho1⟩ := NatO.snoc (x := x % 65536) hown' HH.out.2.2.1 (by omega)
      have hb1 : Below w.heap.size w w1 := (HH.out.2.2.2.alloc hwB _).grown hgrow (by simp; omega) (fun j hj => (hown.lt j hj).1)
      have HO := Lib.hid (And.intro ho1 hb1)
      clear hown hown' hgrow ho1 hb1
      go_wp2_with fail
      go_roundw
      case rel => exact ⟨x / 65536, t ++ [x % 65536], q', cap', by go_num, rfl, HH.out.1, HH.out.2.1, HO.out.1, HO.out.2, by rw [List.length_append, List.length_singleton]; omega⟩
      case measure => simp [intOf]; omega
    · obtain rfl : x = 0 := by omega
      have hv2 : V16 t = n := by simpa using hv
      have htl : t.length ≤ 4194304 := by omega
      have hw := whole_any q cap t wr ho.toV hok htl
      rw [hv2] at hw
      have HB := Lib.hid hb
      clear hv hok ho hb hv2 hown
      go_wp2_with fail
      refine hw.mono ?_
      rintro e w2 ⟨p2, c2, rfl, ho2, hb2⟩
      have HW := Lib.hid (And.intro ho2 hb2)
      clear hw ho2 hb2
      go_wp2_with fail
      go_ret
      exact ⟨p2, c2, rfl, HW.out.1.base hwB, HB.out.trans (HW.out.2.mono hwB)⟩
end Go.Proofs.YtfgoflaeclfggaaGreatDoor
end
section
namespace Go.Proofs.YtfgoflaeclfggaaGreatDoor
open Go.RowKit NatM

theorem lt_of_drop16 {a b : List Nat} {i x y : Nat} (ha : okB 65536 a) (hx : a[i]? = some x) (hy : b[i]? = some y) (hd : a.drop (i + 1) = b.drop (i + 1)) (hlt : x < y) : V16 a < V16 b := lt_atq (by omega) ha hx hy hd hlt
theorem cmp_len16 {m n : Nat} (h : (D16 m).length < (D16 n).length) : m < n := digs_length_lt (by omega) h

set_option maxRecDepth 100000 in
set_option maxHeartbeats 2000000 in
theorem cmp_ref (p q : Option Addr) (c d : Nat) (l m : List Nat) (w : World) (h : NatV w.heap.size w p c l) (k : NatV w.heap.size w q d m) (hl : l.length ≤ 1048576) (hm : m.length ≤ 1048576) :
    Calls Tryz.prog 80 #[.slice p l.length c, .slice q m.length d] w (Tells (.int .i64 (cmpN (V32 l) (V32 m))) w) := by
  have H := Lib.hid (And.intro h k)
  have HT := Lib.hid (half_any p c l w h hl)
  have HM := Lib.hid (And.intro hm (And.intro (half_len h.ok) (half_len k.ok)))
  obtain ⟨A, hA⟩ : ∃ A, V32 l = A := ⟨_, rfl⟩
  obtain ⟨B, hB⟩ : ∃ B, V32 m = B := ⟨_, rfl⟩
  have HBB := Lib.hid hB
  rw [hA] at HT HM ⊢
  rw [hB] at HM ⊢
  clear h k hm
  go_enter Tryz.func80, Tryz.ntmps80
  go_wp2_with fail
  refine HT.out.mono ?_
  rintro e w1 ⟨p1, c1, rfl, ho1, hb1⟩
  have HT2 := half_any q d m w1 (H.out.2.next hb1) HM.out.1
  rw [HBB.out] at HT2
  have HO := Lib.hid (And.intro ho1 hb1)
  clear ho1 hb1 hA hB
  go_wp2_with fail
  refine HT2.mono ?_
  rintro e w2 ⟨p2, c2, rfl, ho2, hb2⟩
  have hva : V16 (D16 A) = A := V16_D16 _
  have hvb : V16 (D16 B) = B := V16_D16 _
  have HV2 := Lib.hid (And.intro (HO.out.1.next hb2).toV (And.intro ho2.toV (And.intro (D16_ok A) (And.intro (D16_ok B) (HO.out.2.trans (hb2.mono HO.out.2.size))))))
  clear HT2 ho2 hb2
  have hgt : (D16 B).length < (D16 A).length → B < A := cmp_len16
  have hlt : (D16 A).length < (D16 B).length → A < B := cmp_len16
  have hle := HV2.out.1.le
  have hdle := HV2.out.2.1.le
  have hcap := HV2.out.1.cap
  have hdcap := HV2.out.2.1.cap
  unfold maxLen at hcap hdcap
  obtain ⟨a, ha⟩ : ∃ a, D16 A = a := ⟨_, rfl⟩
  obtain ⟨b, hb⟩ : ∃ b, D16 B = b := ⟨_, rfl⟩
  rw [ha] at HV2 hva hgt hlt hle ⊢
  rw [hb] at HV2 hvb hgt hlt hdle ⊢
  have HL := Lib.hid (And.intro hva (And.intro hvb (And.intro hgt hlt)))
  clear hva hvb hgt hlt ha hb
  rcases Nat.lt_trichotomy a.length b.length with hl' | hl' | hl'
  · have HC := Lib.hid (cmp_lt (HL.out.2.2.2 hl'))
    have h1 : ((a.length : Int) != (b.length : Int)) = true := by simp; omega
    go_wp2_with fail
    go_ret
    exact ⟨by rw [HC.out]; try rfl, HV2.out.2.2.2.2⟩
  · obtain ⟨n, hn⟩ : ∃ n, n = a.length := ⟨_, rfl⟩
    have hn2 : b.length = n := by omega
    rw [← hn, hn2]
    rw [← hn] at hle
    rw [hn2] at hdle
    have HN := Lib.hid (And.intro hn hn2)
    clear hl' hn hn2
    go_wp2_with fail
    go_loopw [7] (fun v wx => ∃ k : Nat, k ≤ n ∧ v = .int .i64 ((k : Int) - 1) ∧ Below w2.heap.size w2 wx ∧ Hid (a.drop k = b.drop k)) (fun v _ => (intOf v + 1).toNat)
    case atStart => exact ⟨n, Nat.le_refl _, rfl, Below.refl _ _, by rw [HN.out.1]; show _ = _; rw [List.drop_length, List.drop_of_length_le]; have := HN.out; omega⟩
    case round =>
      obtain ⟨k, hk, rfl, hbx, hdr⟩ := hrel
      rcases Nat.eq_zero_or_pos k with rfl | hk0
      · have hc : cmpN A B = 0 := by
          have e : a = b := by have := hdr.out; simpa using this
          rw [← HL.out.1, ← HL.out.2.1, e, cmp_eq]
        have HC := Lib.hid hc
        clear hc
        go_wp2_with fail
        go_ret
        exact ⟨by rw [HC.out]; rfl, HV2.out.2.2.2.2.trans (hbx.mono HV2.out.2.2.2.2.size)⟩
      · obtain ⟨j, rfl⟩ : ∃ j, k = j + 1 := ⟨k - 1, by omega⟩
        have e1 : (((j + 1 : Nat) : Int) - 1) = (j : Int) := by omega
        rw [e1]
        have hna : n = a.length := HN.out.1
        have hnb : b.length = n := HN.out.2
        have hne : a ≠ [] := List.length_pos_iff.1 (by omega)
        have hneb : b ≠ [] := List.length_pos_iff.1 (by omega)
        obtain ⟨ba, off, rfl, hba, hca⟩ := (HV2.out.1.below hbx).cell hne
        obtain ⟨bb, off', rfl, hbb, hcb⟩ := (HV2.out.2.1.below hbx).cell hneb
        obtain ⟨x, hx⟩ := some_get (l := a) (k := j) (by omega)
        obtain ⟨y, hy⟩ := some_get (l := b) (k := j) (by omega)
        have h1 := hca j x hx
        have h2 := hcb j y hy
        have HX := Lib.hid (And.intro hx hy)
        clear hca hcb hx hy hne hneb hna hnb e1
        by_cases hxy : x = y
        · subst hxy
          go_wp2_with fail
          go_quiet (fail)
          go_wp2_with fail
          go_quiet (fail)
          go_wp2_with fail
          go_roundw
          case rel => exact ⟨j, by omega, rfl, by first | exact below_drewN hbx _ | exact below_drewN (below_drewN hbx _) _, drop_eqq HX.out.1 HX.out.2 hdr.out⟩
          case measure => simp [intOf]
        · by_cases hlt : x < y
          · have hd : decide (x < y) = true := by simp; omega
            have hc : cmpN A B = -1 := by
              rw [← HL.out.1, ← HL.out.2.1, cmp_lt (lt_of_drop16 HV2.out.2.2.1 HX.out.1 HX.out.2 hdr.out hlt)]
            have HC := Lib.hid hc
            clear hc
            go_wp2_with fail
            go_quiet (fail)
            go_wp2_with fail
            go_ret
            exact ⟨by rw [HC.out]; rfl, HV2.out.2.2.2.2.trans ((below_drewN hbx _).mono HV2.out.2.2.2.2.size)⟩
          · have hgt : y < x := by omega
            have hd : decide (x < y) = false := by simp; omega
            have hd2 : decide (y < x) = true := by simp; omega
            have hc : cmpN A B = 1 := by
              rw [← HL.out.1, ← HL.out.2.1, cmp_gt (lt_of_drop16 HV2.out.2.2.2.1 HX.out.2 HX.out.1 hdr.out.symm hgt)]
            have HC := Lib.hid hc
            clear hc
            go_wp2_with fail
            go_quiet (fail)
            go_wp2_with fail
            go_quiet (fail)
            go_wp2_with fail
            go_ret
            exact ⟨by rw [HC.out]; rfl, by first | exact HV2.out.2.2.2.2.trans ((below_drewN hbx _).mono HV2.out.2.2.2.2.size) | exact HV2.out.2.2.2.2.trans ((below_drewN (below_drewN hbx _) _).mono HV2.out.2.2.2.2.size)⟩
  · have HC := Lib.hid (cmp_gt (HL.out.2.2.1 hl'))
    have h1 : ((a.length : Int) != (b.length : Int)) = true := by simp; omega
    have h2 : decide (a.length < b.length) = false := by simp; omega
    go_wp2_with fail
    go_ret
    exact ⟨by rw [HC.out]; try rfl, HV2.out.2.2.2.2⟩

/-- modulo 2^64 -/
def lowN (n : Nat) : Nat := n % 18446744073709551616
theorem low16 {n : Nat} : V16 ((D16 n).take 4) = lowN n := by
  have hv : V16 (D16 n) = n := V16_D16 n
  have h1 := valB_lt (B := 65536) (by omega) (okB_take (D16_ok n) 4)
  rcases Nat.lt_or_ge (D16 n).length 4 with h | h
  · rw [List.take_of_length_le (by omega)] at h1 ⊢
    have h2 : 65536 ^ (D16 n).length ≤ 65536 ^ 4 := Nat.pow_le_pow_right (by omega) (by omega)
    rw [show 65536 ^ 4 = 18446744073709551616 by decide] at h2
    change V16 (D16 n) < _ at h1
    rw [hv] at h1 ⊢
    unfold lowN
    omega
  · have hs := valB_split 65536 (D16 n) 4 h
    rw [List.length_take, Nat.min_eq_left h, show 65536 ^ 4 = 18446744073709551616 by decide] at h1
    rw [show 65536 ^ 4 = 18446744073709551616 by decide] at hs
    change V16 (D16 n) = V16 ((D16 n).take 4) + _ at hs
    change V16 ((D16 n).take 4) < _ at h1
    rw [hv] at hs
    unfold lowN
    omega
/-- x, read so far from the top digit down to place j of the lowest four -/
structure LowInv (n j x : Nat) : Prop where
  le : j ≤ 4
  val : x = V16 (((D16 n).take 4).drop j)
theorem LowInv.lt {n j x : Nat} (h : LowInv n j x) : x < 65536 ^ (4 - j) := by
  have h1 := valB_lt (B := 65536) (by omega) (okB_drop (okB_take (D16_ok n) 4) j)
  rw [h.val]
  refine Nat.lt_of_lt_of_le h1 (Nat.pow_le_pow_right (by omega) ?_)
  rw [List.length_drop, List.length_take]; omega
theorem LowInv.start (n : Nat) : LowInv n 4 0 := ⟨Nat.le_refl _, by rw [List.drop_of_length_le (by rw [List.length_take]; omega)]; rfl⟩
theorem LowInv.step {n j x y : Nat} (h : LowInv n (j + 1) x) (hy : (D16 n)[j]? = some y) : LowInv n j (x * 65536 + y) := by
  have hj := h.le
  refine ⟨by omega, ?_⟩
  have hy' : ((D16 n).take 4)[j]? = some y := by rw [List.getElem?_take, if_pos (by omega)]; exact hy
  have := valB_dropq 65536 hy'
  show _ = valB 65536 _
  rw [this, h.val]
  show V16 _ * 65536 + y = y + 65536 * V16 _
  omega
theorem LowInv.over {n j x : Nat} (h : LowInv n (j + 1) x) (hj : (D16 n).length ≤ j) : LowInv n j (x * 65536) := by
  have hle := h.le
  have e : x = 0 := by rw [h.val, List.drop_of_length_le (by rw [List.length_take]; omega)]; rfl
  refine ⟨by omega, ?_⟩
  rw [List.drop_of_length_le (by rw [List.length_take]; omega), e]; rfl
theorem LowInv.done {n x : Nat} (h : LowInv n 0 x) : x = lowN n := by rw [h.val, List.drop_zero, low16]

def LowRel (n : Nat) (w2 : World) (v4 v5 : Value) (wr : World) : Prop :=
  ∃ (j x : Nat), v5 = .int .i64 ((j : Int) - 1) ∧ v4 = .int .u64 (x : Int) ∧ LowInv n j x ∧ w2 = wr
end Go.Proofs.YtfgoflaeclfggaaGreatDoor
end
section
namespace Go.Proofs.YtfgoflaeclfggaaGreatDoor
open Go.RowKit NatM

/-- two lists of digits, added so far up to place i -/
structure SInv (a b : List Nat) (i c : Nat) (out : List Nat) : Prop where
  len : out.length = i
  ok : okB 65536 out
  car : c ≤ 1
  val : V16 out + 65536 ^ i * c = V16 (a.take i) + V16 (b.take i)
  bnd : i ≤ max a.length b.length + 1
theorem SInv.start (a b : List Nat) : SInv a b 0 0 [] := ⟨rfl, okB_nil _, by omega, by simp [V16, valB], by omega⟩
theorem SInv.stop {a b : List Nat} {i c : Nat} {out : List Nat} (ha : okB 65536 a) (hb : okB 65536 b) (h : SInv a b i c out) (hi : max a.length b.length < i) : c = 0 := by
  have hv := h.val
  rw [List.take_of_length_le (by omega), List.take_of_length_le (by omega)] at hv
  have h1 := valB_lt (B := 65536) (by omega) ha
  have h2 := valB_lt (B := 65536) (by omega) hb
  have h3 : 65536 ^ a.length ≤ 65536 ^ (i - 1) := Nat.pow_le_pow_right (by omega) (by omega)
  have h4 : 65536 ^ b.length ≤ 65536 ^ (i - 1) := Nat.pow_le_pow_right (by omega) (by omega)
  have h5 : 65536 ^ i = 65536 * 65536 ^ (i - 1) := by rw [Nat.mul_comm, ← Nat.pow_succ]; congr 1; omega
  rcases Nat.eq_zero_or_pos c with h0 | h0
  · exact h0
  · exfalso
    have h6 : 65536 ^ i * 1 ≤ 65536 ^ i * c := Nat.mul_le_mul_left _ h0
    change V16 a < _ at h1
    change V16 b < _ at h2
    omega
theorem SInv.step {a b : List Nat} {i c : Nat} {out : List Nat} (ha : okB 65536 a) (hb : okB 65536 b) (h : SInv a b i c out) (hgo : i < a.length ∨ i < b.length ∨ 0 < c) :
    SInv a b (i + 1) ((c + limbAt a i + limbAt b i) / 65536) (out ++ [(c + limbAt a i + limbAt b i) % 65536]) := by
  have hv := h.val
  have hl := h.len
  have hc := h.car
  have hst := h.stop ha hb
  have hx := limb_lt (B := 65536) (by omega) ha i
  have hy := limb_lt (B := 65536) (by omega) hb i
  refine ⟨by rw [List.length_append, List.length_singleton, hl], okB_snoc h.ok (by omega), by omega, ?_, ?_⟩
  · show valB 65536 _ + _ = valB 65536 _ + valB 65536 _
    rw [valB_snoc, valB_take_limb, valB_take_limb, hl, Nat.pow_succ, Nat.mul_assoc, Nat.add_assoc, ← Nat.mul_add, Nat.mod_add_div, Nat.mul_add, Nat.mul_add]
    change V16 out + _ = (V16 _ + _) + (V16 _ + _)
    omega
  · have hb := h.bnd
    rcases Nat.lt_or_ge (max a.length b.length) i with h1 | h1
    · have := hst h1
      omega
    · omega
theorem SInv.done {a b : List Nat} {i : Nat} {out : List Nat} (h : SInv a b i 0 out) (ha : a.length ≤ i) (hb : b.length ≤ i) : V16 out = V16 a + V16 b := by
  have hv := h.val
  rw [List.take_of_length_le ha, List.take_of_length_le hb] at hv
  omega
theorem ok16_32 {l : List Nat} (h : okB 65536 l) : ok32 l := fun x hx => Nat.lt_of_lt_of_le (h x hx) (by omega)

def AddRel (B : Nat) (w : World) (a b : List Nat) (v7 v8 v9 : Value) (wr : World) : Prop :=
  ∃ (i c : Nat) (t : List Nat) (p : Option Addr) (cap : Nat), v7 = .slice p t.length cap ∧ v8 = .int .u32 (c : Int) ∧ v9 = .int .i64 (i : Int) ∧ SInv a b i c t ∧ NatO B wr p cap t ∧ Below B w wr

set_option maxRecDepth 100000 in
set_option maxHeartbeats 4000000 in
theorem add_ref (p q : Option Addr) (c d : Nat) (l m : List Nat) (w : World) (h : NatV w.heap.size w p c l) (k : NatV w.heap.size w q d m) (hl : l.length ≤ 1048576) (hm : m.length ≤ 1048576) :
    Calls Tryz.prog 73 #[.slice p l.length c, .slice q m.length d] w (NatPost w (V32 l + V32 m)) := by
  obtain ⟨i0, hi, hz0, hz1, hz2⟩ := info_parts info32
  have H := Lib.hid (And.intro h k)
  have HT := Lib.hid (half_any p c l w h hl)
  have HM := Lib.hid hm
  have hal := half_len h.ok
  have hbl := half_len k.ok
  obtain ⟨A, hA⟩ : ∃ A, V32 l = A := ⟨_, rfl⟩
  obtain ⟨B, hB⟩ : ∃ B, V32 m = B := ⟨_, rfl⟩
  have HBB := Lib.hid hB
  rw [hA] at HT hal ⊢
  rw [hB] at hbl ⊢
  have hal2 : (D16 A).length ≤ 2097152 := by omega
  have hbl2 : (D16 B).length ≤ 2097152 := by omega
  clear h k hm hal hbl hl
  go_enter Tryz.func73, Tryz.ntmps73
  go_wp2_with fail
  refine HT.out.mono ?_
  rintro e w1 ⟨p1, c1, rfl, ho1, hb1⟩
  have HT2 := half_any q d m w1 (H.out.2.next hb1) HM.out
  rw [HBB.out] at HT2
  have HO := Lib.hid (And.intro ho1 hb1)
  clear ho1 hb1 hA hB
  go_wp2_with fail
  refine HT2.mono ?_
  rintro e w2 ⟨p2, c2, rfl, ho2, hb2⟩
  have hva : V16 (D16 A) = A := V16_D16 _
  have hvb : V16 (D16 B) = B := V16_D16 _
  have HV2 := Lib.hid (And.intro (HO.out.1.next hb2).toV (And.intro ho2.toV (And.intro (D16_ok A) (And.intro (D16_ok B) (HO.out.2.trans (hb2.mono HO.out.2.size))))))
  clear HT2 ho2 hb2
  obtain ⟨a, ha⟩ : ∃ a, D16 A = a := ⟨_, rfl⟩
  obtain ⟨b, hb⟩ : ∃ b, D16 B = b := ⟨_, rfl⟩
  rw [ha] at HV2 hva hal2 ⊢
  rw [hb] at HV2 hvb hbl2 ⊢
  have HL := Lib.hid (And.intro hva hvb)
  clear hva hvb ha hb
  have hws := HV2.out.2.2.2.2.size
  go_wp2_with fail
  go_loopw [7, 8, 9] (fun v7 v8 v9 wr => AddRel w2.heap.size w2 a b v7 v8 v9 wr) (fun _ _ v _ => max a.length b.length + 2 - (intOf v).toNat)
  case atStart => exact ⟨0, 0, [], none, 0, rfl, rfl, rfl, SInv.start a b, NatO.nothing _ _, Below.refl _ _⟩
  case round =>
    obtain ⟨i, c, t, p', cap, rfl, rfl, rfl, hS, ho, hbx⟩ := hrel
    have hwB : w2.heap.size ≤ wr.heap.size := hbx.size
    have hil := hS.bnd
    have htl := hS.len
    have hc1 := hS.car
    by_cases hgo : i < a.length ∨ i < b.length ∨ 0 < c
    · have hst := hS.step HV2.out.2.2.1 HV2.out.2.2.2.1 hgo
      have hxl := limb_lt (B := 65536) (by omega) HV2.out.2.2.1 i
      have hyl := limb_lt (B := 65536) (by omega) HV2.out.2.2.2.1 i
      obtain ⟨x, hx⟩ : ∃ x, limbAt a i = x := ⟨_, rfl⟩
      obtain ⟨y, hy⟩ : ∃ y, limbAt b i = y := ⟨_, rfl⟩
      rw [hx, hy] at hst
      rw [hx] at hxl
      rw [hy] at hyl
      have HX := Lib.hid (And.intro hx hy)
      have HS := Lib.hid (And.intro hst (And.intro ho hbx))
      have hown := ho.own
      have HTL := Lib.hid htl
      have htm : t.length ≤ 2097153 := by omega
      clear hx hy hst ho hbx hS htl
      rcases (show i < a.length ∨ (¬ i < a.length ∧ i < b.length) ∨ (¬ i < a.length ∧ ¬ i < b.length ∧ 0 < c) by omega) with hg | ⟨hg, hg2⟩ | ⟨hg, hg2, hg3⟩
      all_goals
        clear hgo
        go_upto_if 33 with fail
        go_cut [8] (fun v8 wx => v8 = .int .u32 ((c + x : Nat) : Int) ∧ wr = wx)
        case first =>
          by_cases hia : i < a.length
          · first
              | exact absurd hia hg
              | (obtain ⟨bl, off, rfl, hlt, hc⟩ := (HV2.out.1.below HS.out.2.2).cell (List.length_pos_iff.1 (by omega))
                 obtain ⟨x', hx'⟩ := some_get hia
                 have hcl := hc i x' hx'
                 have hxx : x' = x := by rw [← HX.out.1, limb_some hx']
                 subst hxx
                 clear hc hx'
                 go_wp2_with fail
                 go_meet
                 exact ⟨by go_num, rfl⟩)
          · have hx0 : x = 0 := by rw [← HX.out.1, limb_none (by omega)]
            subst hx0
            first
              | exact absurd hg hia
              | (go_wp2_with fail
                 go_meet
                 exact ⟨rfl, rfl⟩)
        case rest =>
          obtain ⟨rfl, rfl⟩ := hcut
          go_upto_if 43 with fail
          go_cut [8] (fun v8 wx => v8 = .int .u32 ((c + x + y : Nat) : Int) ∧ wr = wx)
          case first =>
            by_cases hia : i < b.length
            · first
                | exact absurd hia hg2
                | (obtain ⟨bl, off, rfl, hlt, hc⟩ := (HV2.out.2.1.below HS.out.2.2).cell (List.length_pos_iff.1 (by omega))
                   obtain ⟨x', hx'⟩ := some_get hia
                   have hcl := hc i x' hx'
                   have hxx : x' = y := by rw [← HX.out.2, limb_some hx']
                   subst hxx
                   clear hc hx'
                   go_wp2_with fail
                   go_meet
                   exact ⟨by go_num, rfl⟩)
            · have hx0 : y = 0 := by rw [← HX.out.2, limb_none (by omega)]
              subst hx0
              first
                | exact absurd hg2 hia
                | (go_wp2_with fail
                   go_meet
                   exact ⟨rfl, rfl⟩)
          case rest =>
            obtain ⟨rfl, rfl⟩ := hcut
            obtain ⟨u, hu⟩ : ∃ u, c + x + y = u := ⟨_, rfl⟩
            rw [hu] at HS ⊢
            have hul : u < 131072 := by omega
            clear hu
            go_wp2_with (at_builtin; refine wpList_append_own _ rfl _ _ 25 rfl w2.heap.size 51 i0 (.int .u32 0) 1 4 Tryz.underlying25 hi hz0 hz1 hz2 rfl (by decide) _ t.length (cells32 t) rfl (hown.alloc _) ⟨wr.heap.size, 0, none⟩ 1 1 _ rfl rfl (cell_one_new _ _ _) ?c2 ?c3 ?c4 ?c5 ?_)
            case c2 => intro u hu; simp at hu; subst hu; rfl
            case c3 => unfold maxLen; omega
            case c4 => omega
            case c5 => simp; omega
            intro v' w3 hown' hgrow _
            rw [show ((u : Int) % 65536) = ((u % 65536 : Nat) : Int) by omega] at hown'
            obtain ⟨q', cap', rfl, ho1⟩ := NatO.snoc (x := u % 65536) hown' HS.out.2.1.ok (by omega)
            have hb1 : Below w2.heap.size w2 w3 := (HS.out.2.2.alloc hwB _).grown hgrow (by simp; omega) (fun j hj => (hown.lt j hj).1)
            have HO2 := Lib.hid (And.intro ho1 hb1)
            clear hown hown' hgrow ho1 hb1
            go_wp2_with fail
            go_roundw
            case rel => exact ⟨i + 1, u / 65536, t ++ [u % 65536], q', cap', rfl, by go_num, by go_num, HS.out.1, HO2.out.1, HO2.out.2⟩
            case measure => simp [intOf]; omega
    · have hia : a.length ≤ i := by omega
      have hib : b.length ≤ i := by omega
      obtain rfl : c = 0 := by omega
      have hd := hS.done hia hib
      have hw := whole_any p' cap t wr ho.toV hS.ok (by omega)
      rw [hd, HL.out.1, HL.out.2] at hw
      have HB := Lib.hid hbx
      clear hd hS ho hbx hgo htl hil
      go_wp2_with fail
      refine hw.mono ?_
      rintro e w4 ⟨p4, c4, rfl, ho4, hb4⟩
      have HW := Lib.hid (And.intro ho4 hb4)
      have hz := Nat.le_trans hws hwB
      clear hw ho4 hb4
      go_wp2_with fail
      go_ret
      exact ⟨p4, c4, rfl, HW.out.1.base hz, HV2.out.2.2.2.2.trans ((HB.out.mono hws).trans (HW.out.2.mono hz))⟩

end Go.Proofs.YtfgoflaeclfggaaGreatDoor
end
section
namespace Go.Proofs.YtfgoflaeclfggaaGreatDoor
open Go.RowKit NatM

def SumRefRel (w : World) (L : List Nt) (v3 v4 : Value) (wr : World) : Prop :=
  ∃ (k : Nat) (p : Option Addr) (cap : Nat), k ≤ L.length ∧ v4 = .int .i64 (k : Int) ∧ v3 = .slice p (D32 (sumV (L.take k))).length cap ∧ NatO w.heap.size wr p cap (D32 (sumV (L.take k))) ∧ Below w.heap.size w wr
end Go.Proofs.YtfgoflaeclfggaaGreatDoor
end
section
namespace Go.Proofs.YtfgoflaeclfggaaGreatDoor
open Go.RowKit NatM

/-- a number of edenref02 that is refused: no number, and the error's number k at place pl of package nat -/
def RefErr (w : World) (pl k : Int) (v : Value) (w' : World) : Prop :=
  ∃ po pa, v = .agg #[.int .i64 k, .slice po 1 1, .slice pa 1 1] ∧ WantV w' po pa 1 1 [(natOp, pl)] ∧ Below w.heap.size w w'
def RefErr2 (w : World) (pl k : Int) (e : Ending) (w' : World) : Prop := ∃ v, e = .returned (.tuple #[.slice none 0 0, v]) ∧ RefErr w pl k v w'
def noErr : Value := .agg #[.int .i64 0, .slice none 0 0, .slice none 0 0]
def RefOk2 (w : World) (n : Nat) (e : Ending) (w' : World) : Prop :=
  ∃ p c, e = .returned (.tuple #[.slice p (D32 n).length c, noErr]) ∧ NatO w.heap.size w' p c (D32 n) ∧ Below w.heap.size w w'

/-- an Err of one package is made: its two slices are new memory -/
def RawFresh (w : World) (op : ByteArray) (pl n : Int) (e : Ending) (w' : World) : Prop :=
  ∃ g g', e = .returned (.agg #[.int .i64 n, .slice (some ⟨g, 0, none⟩) 1 1, .slice (some ⟨g', 0, none⟩) 1 1]) ∧ (w.heap.size ≤ g ∧ g < w'.heap.size ∧ w.heap.size ≤ g' ∧ g' < w'.heap.size) ∧ w'.cell? ⟨g, 0, none⟩ = some (.string op) ∧ w'.cell? ⟨g', 0, none⟩ = some (.int .i64 pl) ∧ Below w.heap.size w w'
theorem raw_fresh (op : ByteArray) (pl n : Int) (w : World) :
    Calls Tryz.prog 67 #[.string op, .int .i64 pl, .int .i64 n] w (RawFresh w op pl n) := by
  go_enter Tryz.func67, Tryz.ntmps67
  go_wp2_with fail
  refine bodyPost_ret (v := .agg #[.int .i64 n, .slice (some ⟨w.heap.size + 1, 0, none⟩) 1 1, .slice (some ⟨w.heap.size + 1 + 1, 0, none⟩) 1 1]) (by simp [results, Tryz.results67, go_sem]) rfl ⟨_, _, rfl, ⟨by omega, by simp, by omega, by simp⟩, ?_, ?_, ?_⟩
  · show World.cell? _ ⟨w.heap.size + 1, 0, none⟩ = _
    rw [World.cell?_alloc_lt _ _ ⟨w.heap.size + 1, 0, none⟩ (by simp), cell_alloc_at _ _ _ _ _ (by simp)]
    rfl
  · show World.cell? _ ⟨w.heap.size + 1 + 1, 0, none⟩ = _
    rw [cell_alloc_at _ _ _ _ _ (by simp)]
    rfl
  · exact (((Below.refl _ _).alloc (Nat.le_refl _) _).alloc (by simp) _).alloc (by simp; omega) _
theorem WantV.one {w : World} {g g' : Nat} {op : ByteArray} {pl : Int} (hg : g < w.heap.size) (hg' : g' < w.heap.size) (h : w.cell? ⟨g, 0, none⟩ = some (.string op)) (h' : w.cell? ⟨g', 0, none⟩ = some (.int .i64 pl)) : WantV w (some ⟨g, 0, none⟩) (some ⟨g', 0, none⟩) 1 1 [(op, pl)] :=
  ⟨fun _ => ⟨g, 0, rfl, hg, fun j x hx => by
    match j, hx with
    | 0, hx => simp at hx; subst hx; exact h⟩, fun _ => ⟨g', 0, rfl, hg', fun j x hx => by
    match j, hx with
    | 0, hx => simp at hx; subst hx; exact h'⟩, Nat.le_refl _, Nat.le_refl _, by decide, by decide⟩
/-- the three cells of a result of type Err are set -/
def put3 (w : World) (h : Nat) (a b c : Value) : World := ((w.setCell ⟨h, 0, none⟩ a).setCell ⟨h, 1, none⟩ b).setCell ⟨h, 2, none⟩ c
theorem put3_size (w : World) (h : Nat) (a b c : Value) : (put3 w h a b c).heap.size = w.heap.size := by simp [put3]
theorem put3_cell (w : World) (h : Nat) (a b c : Value) (p : Addr) (hp : p.block ≠ h) : (put3 w h a b c).cell? p = w.cell? p := by
  unfold put3
  have e : ∀ (u : World) (x : Addr) (v : Value), x.block = h → (u.setCell x v).cell? p = u.cell? p := fun u x v hx => World.cell?_of_block (heap_setCell_other u x p.block v (by rw [hx]; exact hp))
  rw [e _ _ _ rfl, e _ _ _ rfl, e _ _ _ rfl]
theorem put3_below {B h : Nat} {w0 w : World} (hb : Below B w0 w) (hB : B ≤ h) (a b c : Value) : Below B w0 (put3 w h a b c) := ((hb.setCell hB _).setCell hB _).setCell hB _
theorem NatO.put3 {base h : Nat} {w : World} {p : Option Addr} {c : Nat} {l : List Nat} (ho : NatO base w p c l) (hh : h < base) (a b d : Value) : NatO base (put3 w h a b d) p c l :=
  ⟨ownsRow_setCell_below (ownsRow_setCell_below (ownsRow_setCell_below ho.own (a := ⟨h, 0, none⟩) hh a) (a := ⟨h, 1, none⟩) hh b) (a := ⟨h, 2, none⟩) hh d, ho.ok⟩
/-- where the three cells of a result lie -/
structure Err3 (w : World) (h : Nat) (a b c : Value) : Prop where
  heap : w.heap[h]? = some (.cells #[a, b, c] 56 (0, 0))
theorem Err3.new (w : World) : Err3 (w.alloc (.cells #[.int .i64 0, .slice none 0 0, .slice none 0 0] 56)) w.heap.size (.int .i64 0) (.slice none 0 0) (.slice none 0 0) := ⟨heap_alloc_new w _⟩
theorem Err3.next {w w' : World} {h : Nat} {a b c : Value} (hb : Below w.heap.size w w') (k : Err3 w h a b c) : Err3 w' h a b c := ⟨by rw [hb.block _ (heap_ltN k.heap)]; exact k.heap⟩
theorem Err3.facts {w : World} {h : Nat} {a b c : Value} (k : Err3 w h a b c) : (w.frozen? ⟨h, 0, none⟩ = false ∧ w.frozen? ⟨h, 1, none⟩ = false ∧ w.frozen? ⟨h, 2, none⟩ = false) ∧ w.cell? ⟨h, 0, none⟩ = some a ∧ w.cell? ⟨h, 1, none⟩ = some b ∧ w.cell? ⟨h, 2, none⟩ = some c := by
  have hh := k.heap
  exact ⟨⟨by simp [World.frozen?, hh], by simp [World.frozen?, hh], by simp [World.frozen?, hh]⟩, cell_of_row w h 0 _ _ _ hh, cell_of_row w h 1 _ _ _ hh, cell_of_row w h 2 _ _ _ hh⟩

end Go.Proofs.YtfgoflaeclfggaaGreatDoor
end
section
namespace Go.Proofs.YtfgoflaeclfggaaGreatDoor
open Go.RowKit

/-- a post that tells the answer, and that only draws were made -/
def Quiet (v : Value) (w : World) (e : Ending) (w' : World) : Prop := e = .returned v ∧ ∃ m, w' = w.drewN m
theorem Quiet.tells {P : Program} {f : FuncId} {args : Array Value} {w : World} {v : Value} (h : Calls P f args w (Quiet v w)) : Calls P f args w (Tells v w) :=
  h.mono fun _ _ ⟨he, m, hw⟩ => ⟨he, by rw [hw]; exact below_drewN (Below.refl _ _) m⟩
theorem quiet_more {w wx : World} (h : ∃ a, wx = w.drewN a) (m : Nat) : ∃ a, wx.drewN m = w.drewN a := by
  obtain ⟨a, rfl⟩ := h
  exact ⟨a + m, by rw [World.drewN_drewN]⟩
/-- for a quiet region: contracts whose post is Quiet -/
theorem Quiet.add {P : Program} {f : FuncId} {args : Array Value} {w : World} {n : Nat} {v : Value} (h : Calls P f args (w.drewN n) (Quiet v (w.drewN n))) :
    Calls P f args (w.drewN n) fun e w'' => e = .returned v ∧ ∃ m, w'' = w.drewN m :=
  h.mono fun _ _ ⟨he, m, hw⟩ => ⟨he, n + m, by rw [hw, World.drewN_drewN]⟩
theorem Quiet.add2 {P : Program} {f : FuncId} {args : Array Value} {w : World} {a n : Nat} {v : Value} (h : Calls P f args (w.drewN (a + n)) (Quiet v (w.drewN (a + n)))) :
    Calls P f args (w.drewN (a + n)) fun e w'' => e = .returned v ∧ ∃ m, w'' = w.drewN (a + m) :=
  h.mono fun _ _ ⟨he, m, hw⟩ => ⟨he, n + m, by rw [hw, World.drewN_drewN, Nat.add_assoc]⟩
end Go.Proofs.YtfgoflaeclfggaaGreatDoor
end
