/- FaultWraps: its walk: whatever the packages, the place and the number, it answers true and old memory stays. -/
import Derived.Test.YtmbgfcanchmmpaaDoorFaultL
import Derived.Deep.DeepCutAuto
import Derived.Outline
namespace Go.Proofs.YtmbgfcanchmmpaaDoor
open Go.RowKit Go.Extern.Stop Go.Stop Go.Extern

/-- A slice of strings that is only read: its first n elements. -/
def Strs (w : World) (p : Option Addr) (n cap : Nat) (ss : List ByteArray) : Prop :=
  n ≤ ss.length ∧ n ≤ cap ∧ ∀ j, j < n → ∃ b off, p = some ⟨b, off, none⟩ ∧ b < w.heap.size ∧ w.cell? ⟨b, off + j, none⟩ = some (.string (ss.getD j .empty))
theorem Strs.below {w w' : World} {p : Option Addr} {n cap : Nat} {ss : List ByteArray} (hb : Below w.heap.size w w') (h : Strs w p n cap ss) : Strs w' p n cap ss :=
  ⟨h.1, h.2.1, fun j hj => by
    obtain ⟨b, off, h1, h2, h3⟩ := h.2.2 j hj
    exact ⟨b, off, h1, Nat.lt_of_lt_of_le h2 hb.size, (hb.cell (p := ⟨b, off + j, none⟩) h2).trans h3⟩⟩
theorem Strs.less {w : World} {p : Option Addr} {n m cap : Nat} {ss : List ByteArray} (h : Strs w p n cap ss) (hm : m ≤ n) : Strs w p m cap ss :=
  ⟨Nat.le_trans hm h.1, Nat.le_trans hm h.2.1, fun j hj => h.2.2 j (Nat.lt_of_lt_of_le hj hm)⟩

theorem errorsUnwrap (b : Nat) (op : ByteArray) (pl : Int) (t : Tree) (w : World) (hl : (Tree.fault b op pl t).lies w) :
    Calls Tryd.prog 25 #[.iface 44 (.pointer (some ⟨b, 0, none⟩))] w fun e w' => e = .returned t.val ∧ w = w' := by
  have f2 := hasU44
  have mU := methodU44
  go_enter Tryd.func25, Tryd.ntmps25
  go_wp2_with (go_at_call 78; refine (unwrap44 b op pl t.val _ hl.1).mono ?_; rintro e w' ⟨rfl, rfl⟩)
  go_ret
  exact ⟨rfl, rfl⟩
theorem neq_same (w : World) (a : Addr) :
    (binOp .neq 28 (.iface 44 (.pointer (some a))) (.iface 44 (.pointer (some a)))).run Tryd.prog w = .ok (.bool false) w := by
  obtain ⟨i, hi, hcmp⟩ := Option.map_eq_some_iff.1 isComp44
  obtain ⟨j, hj, hjs⟩ := Option.map_eq_some_iff.1 isSize48
  simp only [binOp]
  simp [Op.equal, Op.maxDepth, run_equalIn_iface_ptr_same (P := Tryd.prog) w 9998 a Tryd.underlying28 Tryd.underlying44 hi hcmp hj]

def rootText : ByteArray := ⟨#[114, 111, 111, 116]⟩
def opTexts (t : Tree) : List ByteArray := t.faults.map (·.2.1)

/-- What the first loop of FaultWraps hands on. -/
def WrapRel (w0 : World) (A : Nat → Addr) (m : Nat) (ss : List ByteArray) (b0 : Nat) (pl : Int) (n : Nat) (v8 v9 : Value) (wr : World) : Prop :=
  ∃ (k b : Nat) (op : ByteArray) (q : Int) (t : Tree), k ≤ n ∧ v9 = .int .i64 k ∧ v8 = (Tree.fault b op q t).val ∧ (Tree.fault b op q t).lies wr ∧ Ends A m (.fault b op q t) ∧
    opTexts (.fault b op q t) = (ss.take k).reverse ++ [rootText] ∧ (Tree.fault b op q t).faults.getLast? = some (b0, rootText, pl) ∧ (Tree.fault b op q t).hits 44 ⟨b0, 0, none⟩ = true ∧ (Tree.fault b0 rootText pl (.leaf (A m))).lies wr ∧ Below w0.heap.size w0 wr
theorem WrapRel.next {w0 : World} {A : Nat → Addr} {m : Nat} {ss : List ByteArray} {b0 : Nat} {pl : Int} {n k : Nat} {wr w' : World} {t : Tree} {b : Nat} {q : Int}
    (hk : k < n) (hs : k < ss.length) (hb : Below w0.heap.size w0 wr) (hb' : Below wr.heap.size wr w') (hl : (Tree.fault b (ss.getD k .empty) q t).lies w') (he : Ends A m t)
    (ho : opTexts t = (ss.take k).reverse ++ [rootText]) (hg : t.faults.getLast? = some (b0, rootText, pl)) (hh : t.hits 44 ⟨b0, 0, none⟩ = true) (hr : (Tree.fault b0 rootText pl (.leaf (A m))).lies wr) :
    WrapRel w0 A m ss b0 pl n (Tree.fault b (ss.getD k .empty) q t).val (.int .i64 ((k : Int) + 1)) w' := by
  refine ⟨k + 1, b, ss.getD k .empty, q, t, by omega, by go_num, rfl, hl, he.fault, ?_, ?_, ?_, Tree.lies_below hb' (t := .fault b0 rootText pl (.leaf (A m))) hr, hb.trans (hb'.mono hb.size)⟩
  · have e1 : opTexts (.fault b (ss.getD k .empty) q t) = ss.getD k .empty :: opTexts t := rfl
    have e2 : ss.getD k .empty = ss[k] := by rw [List.getD_eq_getElem?_getD, List.getElem?_eq_getElem hs]; rfl
    rw [e1, ho, List.take_succ_eq_append_getElem hs, List.reverse_append, e2]
    rfl
  · have e1 : (Tree.fault b (ss.getD k .empty) q t).faults = (b, ss.getD k .empty, q) :: t.faults := rfl
    rw [e1, List.getLast?_cons, hg]
    rfl
  · simp only [Tree.hits]
    rw [hh]
    simp

/-- What cutting the list to 64 leaves. -/
def CutRel (w1 : World) (p : Option Addr) (n cap : Nat) (v : Value) (wx : World) : Prop := ∃ m, m ≤ 64 ∧ m ≤ n ∧ v = .slice p m cap ∧ wx = w1

set_option maxRecDepth 100000 in
set_option maxHeartbeats 4000000 in
theorem wraps_zero (p : Option Addr) (n0 cap : Nat) (ss : List ByteArray) (pl : Int) (w : World) (A : Nat → Addr) (hr : Roots w A) (hT : TypeVar w) (hs : Strs w p n0 cap ss) (hmax : cap ≤ 9223372036854775807) :
    Calls Tryd.prog 5 #[.slice p n0 cap, .int .i64 pl, .int .i64 0] w (AwakePost w) := by
  have hn0 : n0 ≤ cap := hs.2.1
  have HR := Lib.hid hr
  have HT := Lib.hid hT
  have HS := Lib.hid hs
  clear hr hT hs
  go_enter Tryd.func5, Tryd.ntmps5
  go_wp2_with fail
  refine (awake_any _ A HR.out HT.out).mono ?_
  rintro e w1 ⟨rfl, hb1⟩
  go_upto_if 20 with fail
  go_cut [0] (fun v wx => CutRel w1 p n0 cap v wx)
  case first =>
    by_cases h : n0 ≤ 64
    · go_wp2_with fail
      go_meet
      exact ⟨n0, h, Nat.le_refl _, rfl, rfl⟩
    · obtain ⟨b, off, hp, _, _⟩ := HS.out.2.2 0 (by omega)
      subst hp
      go_wp2_with fail
      go_meet
      exact ⟨64, by omega, by omega, rfl, rfl⟩
  case rest =>
    obtain ⟨m, hm, hmn, rfl, rfl⟩ := hcut
    have HS1 := Lib.hid (((HS.out.less hmn)).below hb1)
    go_wp2_with fail
    refine (new_zero _ _ _).mono ?_
    rintro e w2 ⟨rfl, rfl⟩
    go_wp2_with fail
    go_loop [8, 9] (fun v8 v9 => v8 = .nilIface ∧ ∃ k : Nat, k ≤ m ∧ v9 = .int .i64 k) (fun _ i => m - (intOf i).toNat)
    case atStart => exact ⟨rfl, 0, Nat.zero_le _, rfl⟩
    case round =>
      obtain ⟨rfl, k, hk, rfl⟩ := hrel
      by_cases hlt : k < m
      · obtain ⟨b, off, rfl, hb, hc⟩ := HS1.out.2.2 k hlt
        go_wp2_with fail
        refine (under_nil _ _ _).mono ?_
        rintro e w3 ⟨rfl, rfl⟩
        go_wp2_with fail
        go_round
        case rel => exact ⟨rfl, k + 1, by omega, by go_num⟩
        case measure => simp [intOf]; omega
      · go_wp2_with fail
        refine (trail_any .nil _ True.intro (HT.out.below hb1) (by decide)).mono ?_
        rintro e w3 ⟨v, rfl, hown, hb3⟩
        have hB3 : Below w.heap.size w w3 := hb1.trans (hb3.mono hb1.size)
        have hd := deep_any .nil w3 True.intro (HT.out.below hB3) (by decide)
        have e0 : ([] : List (Nat × ByteArray × Int)).length = 0 := rfl
        rcases own_shape hown with ⟨rfl, _, _⟩ | ⟨g, cap', rfl, _⟩
        all_goals
          clear hown
          go_wp2_with fail
          refine hd.mono ?_
          rintro e w4 ⟨rfl, hb4⟩
          have hB4 : Below w.heap.size w w4 := hB3.trans (hb4.mono hB3.size)
          have e1 : (Tree.nil.faults.length : Int) = 0 := rfl
          rw [e1]
          clear e1 hd hb3 hb4
          go_wp2_with fail
          refine (code_any .nil _ A True.intro (HR.out.below hB4)).mono ?_
          rintro e w5 ⟨c, rfl, hc, hb5⟩
          obtain rfl : c = 0 := by
            rcases hc with ⟨_, h⟩ | ⟨h, _⟩ | ⟨h, _⟩
            · exact h
            · cases h
            · cases h
          have HB := Lib.hid (hB4.trans (hb5.mono hB4.size))
          clear hc hb5 hB3 hB4 hb1
          go_wp2_with fail
          go_ret
          exact ⟨rfl, HB.out⟩
end Go.Proofs.YtmbgfcanchmmpaaDoor
