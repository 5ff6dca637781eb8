/- Package fault by its contracts, fourth part: Inner, Trail and Code of any error tree. -/
import Derived.Test.YtmbgfcanchmmpaaDoorFaultC
namespace Go.Proofs.YtmbgfcanchmmpaaDoor
open Go.RowKit Go.Extern.Stop Go.Stop Go.Extern

theorem take_last {α : Type} (l : List α) (k : Nat) (hk : k < l.length) : (l.take (k + 1)).getLast? = some l[k] := by
  rw [List.take_succ_eq_append_getElem hk]
  exact List.getLast?_concat
theorem map_get {l : List (Nat × ByteArray × Int)} {f : Nat × ByteArray × Int → Value} {k : Nat} (hk : k < l.length) : (l.map f)[k]? = some (f l[k]) := by
  simp [hk]

def InnerRel (l : List (Nat × ByteArray × Int)) (v5 v11 : Value) : Prop :=
  ∃ k : Nat, k ≤ l.length ∧ v11 = .int .i64 k ∧ v5 = ptrOpt (l.take k).getLast?

set_option maxHeartbeats 1000000 in
theorem inner_any (t : Tree) (w : World) (hl : t.lies w) (hT : TypeVar w) (hn : t.faults.length ≤ 1048576) :
    Calls Tryd.prog 17 #[t.val] w (TellPost w t.faults.getLast?) := by
  have hc := all_any t w hl hT hn
  have hx : ∀ y, t.faults.getLast? = some y → ∃ v, w.heap[y.1]? = some (.cells #[.string y.2.1, .int .i64 y.2.2, v] 48 (0, 0)) := fun y hy => faults_mem hl (List.mem_of_getLast? hy)
  clear hT hl
  unfold AllPost at hc
  generalize t.faults = l at hx hn hc ⊢
  have HX := Lib.hid hx
  clear hx
  go_enter Tryd.func17, Tryd.ntmps17
  go_wp2_with fail
  refine hc.mono ?_
  clear hc
  rintro e w1 ⟨v, rfl, hown, hb⟩
  have hp := place_any l.getLast? w1 (fun y hy => by obtain ⟨v, h⟩ := HX.out y hy; exact ⟨v, (hb.block _ (heap_lt h)).trans h⟩)
  have HP := Lib.hid hp
  clear hp HX
  rcases own_shape hown with ⟨rfl, h0, _⟩ | ⟨g, cap, rfl, hg1, hg2, hcap, hm, hcell, hlen⟩
  · obtain rfl : l = [] := List.eq_nil_of_length_eq_zero h0
    clear hown h0 hn
    go_wp2_with fail
    refine wp_loop_rounds 1 ?_
    rw [rounds_succ]
    go_wp2_with fail
    refine HP.out.mono ?_
    clear HP
    rintro e w2 ⟨rfl, hb2⟩
    have hv : tellOf ([] : List (Nat × ByteArray × Int)).getLast? = .tuple #[.string ⟨#[]⟩, .int .i64 0, .bool false] := rfl
    rw [hv]
    go_wp2_with fail
    go_ret3
    exact ⟨rfl, hb.trans (hb2.mono hb.size)⟩
  · have HC := Lib.hid hcell
    clear hown hcell hlen hm
    go_wp2_with fail
    go_loop [5, 11] (fun v5 v11 => InnerRel l v5 v11) (fun _ i => l.length - (intOf i).toNat)
    case atStart => exact ⟨0, Nat.zero_le _, rfl, rfl⟩
    case round =>
      obtain ⟨k, hk, rfl, rfl⟩ := hrel
      by_cases hlt : k < l.length
      · have hc1 : w1.cell? ⟨g, k, none⟩ = some (ptrOf l[k]) := (HC.out k hlt).trans (map_get hlt)
        go_wp2_with fail
        go_round
        case rel => exact ⟨k + 1, by omega, by go_num, by rw [take_last l k hlt]; rfl⟩
        case measure => simp [intOf]; omega
      · obtain rfl : k = l.length := by omega
        have hpp := HP.out
        have ht : (l.take l.length).getLast? = l.getLast? := by rw [List.take_length]
        rw [ht]
        clear ht HP
        obtain ⟨x, hx⟩ : ∃ x, l.getLast? = x := ⟨_, rfl⟩
        rw [hx] at hpp ⊢
        have HX := Lib.hid hx
        clear hx
        go_wp2_with fail
        refine hpp.mono ?_
        clear hpp
        rintro e w2 ⟨rfl, hb2⟩
        cases x with
        | none =>
          have hv : tellOf none = .tuple #[.string ⟨#[]⟩, .int .i64 0, .bool false] := rfl
          rw [hv]
          go_wp2_with fail
          go_ret3
          exact ⟨by rw [HX.out]; rfl, hb.trans (hb2.mono hb.size)⟩
        | some y =>
          have hv : tellOf (some y) = .tuple #[.string y.2.1, .int .i64 y.2.2, .bool true] := rfl
          rw [hv]
          go_wp2_with fail
          go_ret3
          exact ⟨by rw [HX.out]; rfl, hb.trans (hb2.mono hb.size)⟩

theorem info9 : (Tryd.prog.info? 9).map (fun i => (i.zero, i.size, i.bytes)) = some (some (.string ⟨#[]⟩), 1, 16) := by kernel_rfl
def opOf (x : Nat × ByteArray × Int) : Value := .string x.2.1
def TrailPost (w : World) (t : Tree) (e : Ending) (w' : World) : Prop :=
  ∃ v, e = .returned v ∧ w'.ownsRow w.heap.size 9 1 v t.faults.length (t.faults.map opOf) ∧ Below w.heap.size w w'
def TrailRel (w1 : World) (l : List (Nat × ByteArray × Int)) (v3 v9 : Value) (wr : World) : Prop :=
  ∃ k : Nat, k ≤ l.length ∧ v9 = .int .i64 k ∧ wr.ownsRow w1.heap.size 9 1 v3 k ((l.take k).map opOf) ∧ Below w1.heap.size w1 wr

set_option maxHeartbeats 2000000 in
theorem trail_any (t : Tree) (w : World) (hl : t.lies w) (hT : TypeVar w) (hn : t.faults.length ≤ 1048576) :
    Calls Tryd.prog 18 #[t.val] w (TrailPost w t) := by
  obtain ⟨i0, hi, hz0, hz1, hz2⟩ := info_parts info9
  have hc := all_any t w hl hT hn
  have hx : ∀ y, y ∈ t.faults → ∃ v, w.heap[y.1]? = some (.cells #[.string y.2.1, .int .i64 y.2.2, v] 48 (0, 0)) := fun y hy => faults_mem hl hy
  clear hT hl
  unfold AllPost at hc
  unfold TrailPost
  generalize t.faults = l at hx hn hc ⊢
  have HX := Lib.hid hx
  clear hx
  go_enter Tryd.func18, Tryd.ntmps18
  go_wp2_with fail
  refine hc.mono ?_
  clear hc
  rintro e w1 ⟨v, rfl, hown, hb⟩
  rcases own_shape hown with ⟨rfl, h0, _⟩ | ⟨g, cap, rfl, hg1, hg2, hcap, hm, hcell, hlen⟩
  · obtain rfl : l = [] := List.eq_nil_of_length_eq_zero h0
    clear hown h0 hn HX
    go_wp2_with fail
    refine wp_loop_rounds 1 ?_
    rw [rounds_succ]
    go_wp2_with fail
    go_ret
    exact ⟨_, rfl, World.ownsRow_nil _ _ _ _, hb⟩
  · have HC := Lib.hid hcell
    clear hown hcell hlen hm
    go_wp2_with fail
    go_loopw [3, 9] (fun v3 v9 wr => TrailRel w1 l v3 v9 wr) (fun _ i _ => l.length - (intOf i).toNat)
    case atStart => exact ⟨0, Nat.zero_le _, rfl, World.ownsRow_nil _ _ _ _, Below.refl _ _⟩
    case round =>
      obtain ⟨k, hk, rfl, hown, hbr⟩ := hrel
      by_cases hlt : k < l.length
      · have hc1 : wr.cell? ⟨g, k, none⟩ = some (ptrOf l[k]) := (hbr.cell (p := ⟨g, k, none⟩) hg2).trans ((HC.out k hlt).trans (map_get hlt))
        obtain ⟨y, hy⟩ : ∃ y, l[k] = y := ⟨_, rfl⟩
        have hop : wr.cell? ⟨y.1, 0, none⟩ = some (.string y.2.1) := by
          obtain ⟨u, hu⟩ := HX.out y (by rw [← hy]; exact List.getElem_mem hlt)
          have h1 := (hb.block _ (heap_lt hu)).trans hu
          have h2 := (hbr.block _ (heap_lt h1)).trans h1
          simp [World.cell?, h2]
        have hpp : ptrOf y = .pointer (some ⟨y.1, 0, none⟩) := rfl
        rw [hy, hpp] at hc1
        have HY := Lib.hid hy
        clear hy hpp
        go_wp2_with (at_builtin; refine wpList_append_own _ rfl _ _ 38 rfl w1.heap.size 9 i0 (.string ⟨#[]⟩) 1 16 Tryd.underlying38 hi hz0 hz1 hz2 rfl (by decide) _ _ _ rfl (hown.alloc _) ⟨wr.heap.size, 0, none⟩ 1 1 [.string y.2.1] rfl rfl ?c1 ?c2 ?c3 ?c4 ?c5 ?_)
        case c1 =>
          intro j u hj
          match j, hj with
          | 0, hj => simp at hj; subst hj; simp [Addr.add]
        case c2 => intro u hu; simp at hu; subst hu; rfl
        case c3 => unfold maxLen; omega
        case c4 => omega
        case c5 => have := hbr.size; simp; omega
        intro v' w2 hown' hgrow _
        have hB : Below w1.heap.size w1 w2 := (hbr.alloc hbr.size _).grown hgrow (by have := hbr.size; simp; omega) (fun j hj => (hown.lt j hj).1)
        have HO := Lib.hid hown'
        clear hown hgrow hown' hbr
        go_wp2_with fail
        go_roundw
        case rel =>
          refine ⟨k + 1, by omega, by go_num, ?_, hB⟩
          have := HO.out
          rw [List.take_succ_eq_append_getElem hlt, List.map_append, HY.out, List.map_take]
          exact this
        case measure => simp [intOf]; omega
      · obtain rfl : k = l.length := by omega
        have HO := Lib.hid hown
        clear hown
        go_wp2_with fail
        go_ret
        refine ⟨_, rfl, ?_, hb.trans (hbr.mono hb.size)⟩
        have := ownsRow_base hb.size HO.out
        rw [List.take_length] at this
        exact this

/-- What Code tells of a tree: no number for no error, the least number that is found, or 99. -/
def IsCode (A : Nat → Addr) (t : Tree) (c : Int) : Prop :=
  (t.isNil = true ∧ c = 0) ∨
  (t.isNil = false ∧ ∃ k : Nat, 1 ≤ k ∧ k ≤ 11 ∧ c = k ∧ t.hits 94 (A k) = true ∧ ∀ j, 1 ≤ j → j < k → t.hits 94 (A j) = false) ∨
  (t.isNil = false ∧ c = 99 ∧ ∀ j, 1 ≤ j → j ≤ 11 → t.hits 94 (A j) = false)
def CodePost (w : World) (A : Nat → Addr) (t : Tree) (e : Ending) (w' : World) : Prop := ∃ c, e = .returned (.int .i64 c) ∧ IsCode A t c ∧ Below w.heap.size w w'
def CodeRel (w : World) (A : Nat → Addr) (t : Tree) (v : Value) (wr : World) : Prop :=
  ∃ k : Nat, 1 ≤ k ∧ k ≤ 12 ∧ v = .int .i64 k ∧ (∀ j, 1 ≤ j → j < k → t.hits 94 (A j) = false) ∧ Below w.heap.size w wr

theorem known_nat {k : Nat} (h1 : 1 ≤ k) (h2 : k ≤ 11) : known (k : Int) = k := by unfold known; rw [if_pos (by omega)]; omega

set_option maxHeartbeats 2000000 in
theorem code_any (t : Tree) (w : World) (A : Nat → Addr) (hl : t.lies w) (hr : Roots w A) :
    Calls Tryd.prog 13 #[t.val] w (CodePost w A t) := by
  have hn1 := eql_isNil t
  have hn2 := guard_isNil t
  by_cases hnn : t.isNil = true
  · have HN := Lib.hid hnn
    obtain rfl := Tree.val_isNil _ hnn
    clear hl hr
    go_enter Tryd.func13, Tryd.ntmps13
    go_wp2_with fail
    go_ret
    exact ⟨_, rfl, Or.inl ⟨rfl, rfl⟩, Below.refl _ _⟩
  · have hnn : t.isNil = false := by simpa using hnn
    have HN := Lib.hid hnn
    have HL := Lib.hid hl
    have HR := Lib.hid hr
    clear hl hr
    go_enter Tryd.func13, Tryd.ntmps13
    go_wp2_with fail
    clear hnn hn1 hn2
    go_loopw [3] (fun v wr => CodeRel w A t v wr) (fun i _ => 12 - (intOf i).toNat)
    case atStart => exact ⟨1, Nat.le_refl _, by decide, rfl, fun j h1 h2 => by omega, Below.refl _ _⟩
    case round =>
      obtain ⟨k, hk1, hk2, rfl, hj, hb⟩ := hrel
      have HJ := Lib.hid hj
      clear hj
      by_cases hlt : k ≤ 11
      · have hc := holds_any t wr 94 (A k) (Tree.lies_below hb (t := t) HL.out) ((HR.out.below hb).there k (by omega)) (Or.inl rfl)
        have hk := known_nat hk1 hlt
        have HK := Lib.hid hk
        clear hk
        go_wp2_with fail
        refine (numbered_any (k : Int) wr A (HR.out.below hb)).mono ?_
        rintro e w1 ⟨rfl, rfl⟩
        rw [HK.out]
        have hv : (Tree.leaf (A k)).val = .iface 94 (.pointer (some (A k))) := rfl
        rw [hv]
        clear hv
        go_wp2_with fail
        refine hc.mono ?_
        clear hc
        rintro e w2 ⟨he, hb2⟩
        by_cases hh : t.hits 94 (A k) = true
        · rw [hh] at he
          have HH := Lib.hid hh
          clear hh
          subst he
          go_wp2_with fail
          go_ret
          exact ⟨_, rfl, Or.inr (Or.inl ⟨HN.out, k, hk1, hlt, rfl, HH.out, HJ.out⟩), hb.trans (hb2.mono hb.size)⟩
        · have hh : t.hits 94 (A k) = false := by simpa using hh
          rw [hh] at he
          have HH := Lib.hid hh
          clear hh
          subst he
          go_wp2_with fail
          go_roundw
          case rel => exact ⟨k + 1, by omega, by omega, by go_num, fun j h1 h2 => by
            rcases Nat.lt_or_ge j k with h | h
            · exact HJ.out j h1 h
            · obtain rfl : j = k := by omega
              exact HH.out, hb.trans (hb2.mono hb.size)⟩
          case measure => simp [intOf]; omega
      · obtain rfl : k = 12 := by omega
        go_wp2_with fail
        go_ret
        exact ⟨_, rfl, Or.inr (Or.inr ⟨HN.out, rfl, fun j h1 h2 => HJ.out j h1 (by omega)⟩), hb⟩
end Go.Proofs.YtmbgfcanchmmpaaDoor
