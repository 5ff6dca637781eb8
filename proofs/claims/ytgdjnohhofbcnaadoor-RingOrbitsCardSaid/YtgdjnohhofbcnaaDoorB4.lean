/- What the rows' lists of package-level variables give the walks: api's twelve errors and errors' own handle; and one world that meets the lists.
How a law's row is closed from its walk: where the law answers true and only new memory was written, each argument reads as it did.
Package word by its contracts, third part: Period, Least.
What the statements of layer 3 share: lists that are known, awake.
What the statements of layer 4 share: rules that are held against each other, lent rules, awake.
What the statements of layer 6 share: awake.
Package ring by its contracts, fourth part: After.
Package ring by its contracts, fifth part: Trace.
Package word by its contracts: Least.
Package ring by its contracts, sixth part: Neck.
append(l, k...) at a statement, guarded or not: whatever the lists, the answer is an own list that reads l with k behind.
edenraw.Apart: lists that each lie in a block of their own are found apart; nothing below changes.
edenraw.Apart, second part: its walk.
What the statements on new memory share: lists that were lent, lists that were made, one behind the other; edenraw.Apart over them.
append(l, y) in a statement that draws its order: whatever the list, the answer is an own list that reads it with y behind.
An argument that is a rule, opened.
An argument that is a list of limbs, opened: it reads a list of numbers below 2^32.
The document's own package of words by its contracts: Check.
The document's own package of rules by its contracts: errors, Power, Bad, Size, Check. -/
import Derived.Test.YtgdjnohhofbcnaaDoorCards
import Derived.Test.YtgdjnohhofbcnaaDoorTie
import Derived.Test.YtgdjnohhofbcnaaDoorB1
import Derived.ProofKit
import Derived.OpenShut
import Derived.Deep.DeepHandedRow
import Derived.Deep.DeepWitnessRowRef
import Derived.LaidHandle
import Derived.LaidLaws
import Derived.Stop.LaidErr
import Derived.Carry
import Derived.SliceStrings
import Derived.Test.YtgdjnohhofbcnaaDoorB3
import Derived.ChangeSlices
import Derived.Deep.RegionWith
import Derived.Test.YtgdjnohhofbcnaaDoorB2
import Derived.Deep.AppendLies
import Derived.Deep.Upon
import Derived.Laws.OwnMore
import Derived.Test.YtgdjnohhofbcnaaDoorProg
import Derived.WalkKit
import Derived.WalkSmall
import Derived.Deep.LoopGhost
import Derived.Lib.Hide
import Derived.Outline
import Derived.Laws.AppendOwn
import Derived.Laws.MakeOwn
import Derived.Laws.Rows
import Derived.Maps.AppendAt
import Derived.ArgAppend
import Derived.Deep.DeepAppendRoom
import Derived.OwnWalk
import Derived.Lib.SmallJoins
section
namespace Go.Proofs.YtgdjnohhofbcnaaDoor
open Go.ChangeShapes Go.WideShapes Go.ChangeAt Go.RowKit

theorem own : ownKnob Tryd.prog.godebug = none := by kernel_rfl
theorem star : "*" ++ "errors.errorString" = "*errors.errorString" := by decide
theorem row94 (u : TypeId) (h : Tryd.prog.typeName? 3 u = some "*errors.errorString") : u = 132 :=
  typeName_ptr_named (nm := "errors.errorString") (by rw [star]; kernel_rfl) (by kernel_rfl) (by decide) u (by rw [star]; exact h)
theorem cells96 : Tryd.prog.cellsOf 153 = 1 := by kernel_rfl
theorem cells9 : Tryd.prog.cellsOf 9 = 1 := by kernel_rfl

set_option maxRecDepth 100000 in
/-- The sentinels of a list: each variable points to a string's cell of its own. -/
theorem sents {W : World} : ∀ (l : List (String × DataW Unit)) (ps : List MemPlace), DataW.LaidVars Tryd.prog W l ps →
    (∀ x ∈ l, ∃ text, x.2 = .iface "*errors.errorString" (.ptr (.agg [.lit (.string text)]))) → (∀ x ∈ l, ∀ g, Tryd.prog.globalNamed x.1 = some g → (Tryd.prog.globals[g]?).map (·.type) = some 29) →
    (∀ b off, MemPlace.cell b off ∈ ps → (∃ c t, W.heap[b]? = some (.cells c t (0, 0))) ∧ ∀ u v, W.cell? ⟨b, off, none⟩ = some (.iface u v) → Value.okWide Tryd.prog W .any 0 u v) →
    ∃ ads : List Addr, ads.length = l.length ∧ (∀ i, i < l.length → ∃ n d a, l[i]? = some (n, d) ∧ ads[i]? = some a ∧ W.var? Tryd.prog n = some #[.iface 132 (.pointer (some a))]) ∧
      (∀ a ∈ ads, (∃ c t, W.heap[a.block]? = some (.cells c t (0, 0))) ∧ MemPlace.cell a.block a.off ∈ ps) ∧ (ps.Nodup → ads.Nodup)
  | [], _, _, _, _, _ => ⟨[], rfl, fun i h => absurd h (by simp), fun a h => absurd h (by simp), fun _ => List.nodup_nil⟩
  | (n, d) :: r, ps, h, hf, hg, hrows => by
    obtain ⟨g, t, cs, f0, p0, q0, hg0, ht0, hv0, hd0, hr, rfl⟩ := h
    obtain ⟨text, hx⟩ := hf (n, d) (List.mem_cons_self ..)
    simp only at hx
    subst hx
    have ht := hg _ (List.mem_cons_self ..) g hg0
    obtain rfl := Option.some.inj (ht.symm.trans ht0)
    obtain ⟨l0⟩ := cs
    have ok0 : ∀ u v, l0 = [.iface u v] → Value.okWide Tryd.prog W .any 0 u v := fun u v e => by
      subst e
      exact (hrows g 0 (by simp [MemPlace.row])).2 u v (by simpa using World.var?_cell hg0 hv0 0)
    obtain ⟨a, s, rfl, hc, hs, hz, rfl⟩ := errorString_of_trod Tryd.underlying29 row94 Tryd.underlying132 Tryd.underlying153 rfl rfl Tryd.underlying9 cells96 cells9 hd0 ok0
    obtain ⟨ads, h1, h2, h3, h4⟩ := sents r q0 hr (fun x hx => hf x (List.mem_cons_of_mem _ hx)) (fun x hx => hg x (List.mem_cons_of_mem _ hx)) (fun b off hm => hrows b off (List.mem_append_right _ hm))
    refine ⟨a :: ads, by simp [h1], ?_, ?_, ?_⟩
    · intro i hi
      cases i with
      | zero => exact ⟨n, _, a, rfl, rfl, hv0⟩
      | succ i => exact h2 i (by simpa using hi)
    · intro b hb
      rcases List.mem_cons.1 hb with rfl | hb
      · exact ⟨(hrows b.block b.off (by simp [MemPlace.row])).1, by simp [MemPlace.row]⟩
      · exact ⟨(h3 b hb).1, List.mem_append_right _ (h3 b hb).2⟩
    · intro hn
      have hq : q0.Nodup := (List.nodup_append.1 hn).2.1
      refine List.nodup_cons.2 ⟨fun hm => ?_, h4 hq⟩
      have hd := (List.nodup_append.1 hn).2.2 (MemPlace.cell a.block a.off) (by simp [MemPlace.row]) _ (h3 a hm).2
      exact hd rfl

/-- The list of the twelve, ads every row has it behind the handle. -/
def twelve : List (String × DataW Unit) := [("eden/api.BadRule", Rows.laid_eden_api_BadRule), ("eden/api.BadWord", Rows.laid_eden_api_BadWord), ("eden/api.BadArg", Rows.laid_eden_api_BadArg), ("eden/api.TooBig", Rows.laid_eden_api_TooBig), ("eden/api.NoBudget", Rows.laid_eden_api_NoBudget), ("eden/api.BadText", Rows.laid_eden_api_BadText), ("eden/api.BadPatch", Rows.laid_eden_api_BadPatch), ("eden/api.BadCert", Rows.laid_eden_api_BadCert), ("eden/api.NoInverse", Rows.laid_eden_api_NoInverse), ("eden/api.BadLine", Rows.laid_eden_api_BadLine), ("eden/api.BadState", Rows.laid_eden_api_BadState), ("eden/api.Unknown", Rows.laid_eden_api_Unknown)]
theorem twelve_form : ∀ x ∈ twelve, ∃ text, x.2 = .iface "*errors.errorString" (.ptr (.agg [.lit (.string text)])) := by
  intro x hx
  simp only [twelve, List.mem_cons, List.not_mem_nil, or_false] at hx
  rcases hx with rfl | rfl | rfl | rfl | rfl | rfl | rfl | rfl | rfl | rfl | rfl | rfl <;> exact ⟨_, rfl⟩
theorem gBadRule : Tryd.prog.globalNamed "eden/api.BadRule" = some 0 := by kernel_rfl
theorem gtBadRule : (Tryd.prog.globals[0]?).map (·.type) = some 29 := by kernel_rfl
theorem gBadWord : Tryd.prog.globalNamed "eden/api.BadWord" = some 1 := by kernel_rfl
theorem gtBadWord : (Tryd.prog.globals[1]?).map (·.type) = some 29 := by kernel_rfl
theorem gBadArg : Tryd.prog.globalNamed "eden/api.BadArg" = some 2 := by kernel_rfl
theorem gtBadArg : (Tryd.prog.globals[2]?).map (·.type) = some 29 := by kernel_rfl
theorem gTooBig : Tryd.prog.globalNamed "eden/api.TooBig" = some 3 := by kernel_rfl
theorem gtTooBig : (Tryd.prog.globals[3]?).map (·.type) = some 29 := by kernel_rfl
theorem gNoBudget : Tryd.prog.globalNamed "eden/api.NoBudget" = some 4 := by kernel_rfl
theorem gtNoBudget : (Tryd.prog.globals[4]?).map (·.type) = some 29 := by kernel_rfl
theorem gBadText : Tryd.prog.globalNamed "eden/api.BadText" = some 5 := by kernel_rfl
theorem gtBadText : (Tryd.prog.globals[5]?).map (·.type) = some 29 := by kernel_rfl
theorem gBadPatch : Tryd.prog.globalNamed "eden/api.BadPatch" = some 6 := by kernel_rfl
theorem gtBadPatch : (Tryd.prog.globals[6]?).map (·.type) = some 29 := by kernel_rfl
theorem gBadCert : Tryd.prog.globalNamed "eden/api.BadCert" = some 7 := by kernel_rfl
theorem gtBadCert : (Tryd.prog.globals[7]?).map (·.type) = some 29 := by kernel_rfl
theorem gNoInverse : Tryd.prog.globalNamed "eden/api.NoInverse" = some 8 := by kernel_rfl
theorem gtNoInverse : (Tryd.prog.globals[8]?).map (·.type) = some 29 := by kernel_rfl
theorem gBadLine : Tryd.prog.globalNamed "eden/api.BadLine" = some 9 := by kernel_rfl
theorem gtBadLine : (Tryd.prog.globals[9]?).map (·.type) = some 29 := by kernel_rfl
theorem gBadState : Tryd.prog.globalNamed "eden/api.BadState" = some 10 := by kernel_rfl
theorem gtBadState : (Tryd.prog.globals[10]?).map (·.type) = some 29 := by kernel_rfl
theorem gUnknown : Tryd.prog.globalNamed "eden/api.Unknown" = some 11 := by kernel_rfl
theorem gtUnknown : (Tryd.prog.globals[11]?).map (·.type) = some 29 := by kernel_rfl
theorem twelve_types : ∀ x ∈ twelve, ∀ g, Tryd.prog.globalNamed x.1 = some g → (Tryd.prog.globals[g]?).map (·.type) = some 29 := by
  intro x hx g hg
  simp only [twelve, List.mem_cons, List.not_mem_nil, or_false] at hx
  rcases hx with rfl | rfl | rfl | rfl | rfl | rfl | rfl | rfl | rfl | rfl | rfl | rfl
  · obtain rfl := Option.some.inj (gBadRule.symm.trans hg); exact gtBadRule
  · obtain rfl := Option.some.inj (gBadWord.symm.trans hg); exact gtBadWord
  · obtain rfl := Option.some.inj (gBadArg.symm.trans hg); exact gtBadArg
  · obtain rfl := Option.some.inj (gTooBig.symm.trans hg); exact gtTooBig
  · obtain rfl := Option.some.inj (gNoBudget.symm.trans hg); exact gtNoBudget
  · obtain rfl := Option.some.inj (gBadText.symm.trans hg); exact gtBadText
  · obtain rfl := Option.some.inj (gBadPatch.symm.trans hg); exact gtBadPatch
  · obtain rfl := Option.some.inj (gBadCert.symm.trans hg); exact gtBadCert
  · obtain rfl := Option.some.inj (gNoInverse.symm.trans hg); exact gtNoInverse
  · obtain rfl := Option.some.inj (gBadLine.symm.trans hg); exact gtBadLine
  · obtain rfl := Option.some.inj (gBadState.symm.trans hg); exact gtBadState
  · obtain rfl := Option.some.inj (gUnknown.symm.trans hg); exact gtUnknown

theorem nodup_inj {α : Type} {l : List α} (h : l.Nodup) {i j : Nat} (hi : i < l.length) (hj : j < l.length) (e : l[i] = l[j]) : i = j := by
  have hp := List.pairwise_iff_getElem.1 h
  rcases Nat.lt_trichotomy i j with k | k | k
  · exact absurd e (hp i j hi hj k)
  · exact k
  · exact absurd e.symm (hp j i hj hi k)

/-- Which of the list is which error. -/
def slotOf (k : Nat) : Nat := (k + 11) % 12
theorem slotOf_inj (j k : Nat) (hj : j ≤ 11) (hk : k ≤ 11) (h : slotOf j = slotOf k) : j = k := by unfold slotOf at h; omega

theorem roots_of_twelve {W : World} (h : laidMet Tryd.prog twelve W) : ∃ A, Roots W A := by
  obtain ⟨ps, hv, hn, hrows⟩ := h
  obtain ⟨ads, h1, h2, h3, h4⟩ := sents twelve ps hv twelve_form twelve_types hrows
  have hlen : ads.length = 12 := h1
  have hnd := h4 hn
  refine ⟨fun k => ads.getD (slotOf k) ⟨0, 0, none⟩, ?_, ?_, ?_⟩
  · intro k hk
    have hs : slotOf k < 12 := Nat.mod_lt _ (by decide)
    obtain ⟨n, d, a, e1, e2, e3⟩ := h2 (slotOf k) hs
    have ea : ads.getD (slotOf k) ⟨0, 0, none⟩ = a := by rw [List.getD_eq_getElem?_getD, e2]; rfl
    show W.cell? ⟨rootVar k, 0, none⟩ = some (.iface 132 (.pointer (some (ads.getD (slotOf k) ⟨0, 0, none⟩))))
    rw [ea]
    clear ea e2
    match k, hk with
    | 0, _ => obtain ⟨rfl, rfl⟩ := Prod.mk.inj (Option.some.inj e1); simpa [rootVar] using World.var?_cell gUnknown e3 0
    | 1, _ => obtain ⟨rfl, rfl⟩ := Prod.mk.inj (Option.some.inj e1); simpa [rootVar] using World.var?_cell gBadRule e3 0
    | 2, _ => obtain ⟨rfl, rfl⟩ := Prod.mk.inj (Option.some.inj e1); simpa [rootVar] using World.var?_cell gBadWord e3 0
    | 3, _ => obtain ⟨rfl, rfl⟩ := Prod.mk.inj (Option.some.inj e1); simpa [rootVar] using World.var?_cell gBadArg e3 0
    | 4, _ => obtain ⟨rfl, rfl⟩ := Prod.mk.inj (Option.some.inj e1); simpa [rootVar] using World.var?_cell gTooBig e3 0
    | 5, _ => obtain ⟨rfl, rfl⟩ := Prod.mk.inj (Option.some.inj e1); simpa [rootVar] using World.var?_cell gNoBudget e3 0
    | 6, _ => obtain ⟨rfl, rfl⟩ := Prod.mk.inj (Option.some.inj e1); simpa [rootVar] using World.var?_cell gBadText e3 0
    | 7, _ => obtain ⟨rfl, rfl⟩ := Prod.mk.inj (Option.some.inj e1); simpa [rootVar] using World.var?_cell gBadPatch e3 0
    | 8, _ => obtain ⟨rfl, rfl⟩ := Prod.mk.inj (Option.some.inj e1); simpa [rootVar] using World.var?_cell gBadCert e3 0
    | 9, _ => obtain ⟨rfl, rfl⟩ := Prod.mk.inj (Option.some.inj e1); simpa [rootVar] using World.var?_cell gNoInverse e3 0
    | 10, _ => obtain ⟨rfl, rfl⟩ := Prod.mk.inj (Option.some.inj e1); simpa [rootVar] using World.var?_cell gBadLine e3 0
    | 11, _ => obtain ⟨rfl, rfl⟩ := Prod.mk.inj (Option.some.inj e1); simpa [rootVar] using World.var?_cell gBadState e3 0
  · intro k hk
    have hs : slotOf k < ads.length := by rw [hlen]; exact Nat.mod_lt _ (by decide)
    have ea : ads.getD (slotOf k) ⟨0, 0, none⟩ = ads[slotOf k] := by rw [List.getD_eq_getElem?_getD, List.getElem?_eq_getElem hs]; rfl
    show Target W (ads.getD (slotOf k) ⟨0, 0, none⟩)
    rw [ea]
    exact (h3 _ (List.getElem_mem hs)).1
  · intro j k hj hk h
    have hsj : slotOf j < ads.length := by rw [hlen]; exact Nat.mod_lt _ (by decide)
    have hsk : slotOf k < ads.length := by rw [hlen]; exact Nat.mod_lt _ (by decide)
    have ej : ads.getD (slotOf j) ⟨0, 0, none⟩ = ads[slotOf j] := by rw [List.getD_eq_getElem?_getD, List.getElem?_eq_getElem hsj]; rfl
    have ek : ads.getD (slotOf k) ⟨0, 0, none⟩ = ads[slotOf k] := by rw [List.getD_eq_getElem?_getD, List.getElem?_eq_getElem hsk]; rfl
    have h' : ads[slotOf j] = ads[slotOf k] := ej.symm.trans (h.trans ek)
    exact slotOf_inj j k hj hk (nodup_inj hnd hsj hsk h')

/-! ### errors.errorType -/
theorem et : Tryd.prog.globalNamed "errors.errorType" = some 12 := by kernel_rfl
theorem rt : (Tryd.prog.cutTypes.find? (·.1 == "internal/reflectlite.rtype")).map (·.2) = some 111 := by kernel_rfl
theorem oneRow : ((List.range 165).filter fun t => Tryd.prog.rowNamed t [101, 114, 114, 111, 114]) = [29] := by kernel_rfl
theorem typesSize : Tryd.prog.types.size = 165 := by kernel_rfl
theorem typeVar_of_handle {W : World} (h : handlesMet Tryd.prog [("errors.errorType", Rows.laid_errors_errorType)] W) : TypeVar W := by
  obtain ⟨name, u, ty, e1, e2, e3, e4, e5⟩ := h _ (List.mem_singleton.2 rfl)
  have en : name = [101, 114, 114, 111, 114] := (Option.some.inj e1).symm
  subst en
  obtain rfl := Option.some.inj (rt.symm.trans e2)
  have hm : ty ∈ (List.range 165).filter fun t => Tryd.prog.rowNamed t [101, 114, 114, 111, 114] := List.mem_filter.2 ⟨List.mem_range.2 (by rw [← typesSize]; exact e3), e4⟩
  rw [oneRow] at hm
  obtain rfl := List.mem_singleton.1 hm
  have hh : typeHandle Tryd.prog 29 = .pointer (some ⟨13, 29, none⟩) := by kernel_rfl
  rw [hh] at e5
  unfold TypeVar
  simpa using World.var?_cell et e5 0

/-- The list of thirteen: the handle, then the twelve. -/
def thirteen : List (String × DataW Unit) := ("errors.errorType", Rows.laid_errors_errorType) :: twelve
theorem roots_of_laid {W : World} (h : laidMetH Tryd.prog thirteen W) : ∃ A, Roots W A ∧ TypeVar W := by
  have h' : laidMet Tryd.prog twelve W ∧ handlesMet Tryd.prog [("errors.errorType", Rows.laid_errors_errorType)] W := h
  obtain ⟨A, hA⟩ := roots_of_twelve h'.1
  exact ⟨A, hA, typeVar_of_handle h'.2⟩

/-! ### a world that meets the list -/
noncomputable def low : Nat := (World.holding Tryd.prog default ⟨#[], #[], []⟩).heap.size
/-- A variable's one cell, laid. -/
def layCell (v : Value) (o : Obj) : Obj := match o with
  | .cells _ t frozen => .cells #[v] t frozen
  | o => o
def ptr94 (b : Nat) : Value := .iface 132 (.pointer (some ⟨b, 0, none⟩))
noncomputable def laidWorld (os : Os) : World :=
  let w0 := World.holding Tryd.prog os ⟨#[.cells #[.string { data := #[98, 97, 100, 32, 114, 117, 108, 101] }] 153, .cells #[.string { data := #[98, 97, 100, 32, 119, 111, 114, 100] }] 153, .cells #[.string { data := #[98, 97, 100, 32, 97, 114, 103, 117, 109, 101, 110, 116] }] 153, .cells #[.string { data := #[116, 111, 111, 32, 98, 105, 103] }] 153, .cells #[.string { data := #[110, 111, 32, 98, 117, 100, 103, 101, 116] }] 153, .cells #[.string { data := #[98, 97, 100, 32, 116, 101, 120, 116] }] 153, .cells #[.string { data := #[98, 97, 100, 32, 112, 97, 116, 99, 104] }] 153, .cells #[.string { data := #[98, 97, 100, 32, 99, 101, 114, 116, 105, 102, 105, 99, 97, 116, 101] }] 153, .cells #[.string { data := #[110, 111, 32, 105, 110, 118, 101, 114, 115, 101] }] 153, .cells #[.string { data := #[98, 97, 100, 32, 108, 105, 110, 101] }] 153, .cells #[.string { data := #[98, 97, 100, 32, 115, 116, 97, 116, 101] }] 153, .cells #[.string { data := #[117, 110, 107, 110, 111, 119, 110] }] 153], #[], []⟩
  { w0 with heap := ((((((((((((w0.heap.modify 0 (layCell (ptr94 (low + 0)))).modify 1 (layCell (ptr94 (low + 1)))).modify 2 (layCell (ptr94 (low + 2)))).modify 3 (layCell (ptr94 (low + 3)))).modify 4 (layCell (ptr94 (low + 4)))).modify 5 (layCell (ptr94 (low + 5)))).modify 6 (layCell (ptr94 (low + 6)))).modify 7 (layCell (ptr94 (low + 7)))).modify 8 (layCell (ptr94 (low + 8)))).modify 9 (layCell (ptr94 (low + 9)))).modify 10 (layCell (ptr94 (low + 10)))).modify 11 (layCell (ptr94 (low + 11)))).modify 12 (layCell (.iface 111 (.agg #[.pointer (some ⟨13, 29, none⟩)]))) }
end Go.Proofs.YtgdjnohhofbcnaaDoor
end
section
namespace Go.Proofs.YtgdjnohhofbcnaaDoor
open Go.ChangeShapes Go.WideShapes Go.ChangeAt Go.RowKit

theorem laidOut : laidOutB Tryd.prog = true := by kernel_rfl

/-- A type that a reading can be carried on at. -/
def Carries (t : TypeId) : Prop := Tryd.prog.readableRec t = true ∧ t < Tryd.prog.types.size
theorem trodAll_below {H : Type} {enc : TypeId × Value → H} {W W' : World} (hb : Below W.heap.size W W') (ts : List TypeId) : ∀ {vs : List Value} {ds : List (DataW H)} {ps : List MemPlace},
    (∀ t ∈ ts, Carries t) → (∀ x ∈ ps, x.block < W.heap.size) →
    DataW.TrodAll enc Tryd.prog W 0 (fun _ => true) true ts vs ds ps → DataW.TrodAll enc Tryd.prog W' 0 (fun b => decide (b < W.heap.size)) true ts vs ds ps := by
  induction ts with
  | nil =>
    intro vs ds ps _ _ h
    obtain ⟨rfl, rfl, rfl⟩ := trodAll_nil h
    exact trodAll_mk0
  | cons t ts ih =>
    intro vs ds ps hr hlt h
    obtain ⟨v, vs', d, ds', p, q, rfl, rfl, rfl, h0, h1⟩ := trodAll_cons h
    have ht := hr t (List.mem_cons_self ..)
    exact trodAll_cons_mk (Below.trod laidOut ht.1 ht.2 h0 hb fun x hx => hlt x (List.mem_append_left _ hx))
      (ih (fun u hu => hr u (List.mem_cons_of_mem _ hu)) (fun x hx => hlt x (List.mem_append_right _ hx)) h1)

/-- The post of a law's row. -/
theorem law_post {H : Type} {enc : TypeId × Value → H} {W W' : World} {args : Array Value} {ds gs : List (DataW H)} {before : List MemPlace} (spec : ChangeSpec) (fn : Func)
    (hres : fn.resultTypes = #[4]) (hv : spec.vars = []) (hf : spec.fn H (ds ++ gs) = { results := [.lit (.bool true)], args := ds })
    (hr : ∀ t ∈ fn.params.toList, Carries t)
    (hW : DataW.Whole enc Tryd.prog fn.params.toList spec.vars false W args.toList ds gs before) (hb : Below W.heap.size W W') :
    spec.post enc Tryd.prog fn false true false false W args (.bool true) W' := by
  have hW' := hW
  have hlt : ∀ x ∈ before, x.block < W.heap.size := fun x hx => by simpa using hW'.lt x hx
  obtain ⟨p, q, hA0, hV, rfl, hfz, hnd⟩ := hW
  have hA : DataW.TrodAll enc Tryd.prog W 0 (fun _ => true) true fn.params.toList args.toList ds p := hA0
  refine ⟨_, _, _, [], p, [], hW', ?_, ?_, ?_, hb.frame _, fun h => by cases h⟩
  · rw [hf, hres]
    exact trodAll_mk1 (shut_bool Tryd.underlying4 true)
  · rw [hf]
    exact trodAll_below hb _ hr (fun x hx => hlt x (List.mem_append_left _ hx)) hA
  · rw [hf, hv]
    rfl

/-- An argument that is a slice of strings, opened: its value, and its strings. -/
theorem open_strs {H : Type} {enc : TypeId × Value → H} {W : World} {v : Value} {d : DataW H} {p : List MemPlace} (hok : ∃ a len cap, v = .slice a len cap)
    (h : DataW.Trod enc Tryd.prog W 0 (fun _ => true) true 32 v d p) (hlt : ∀ x ∈ p, x.block < W.heap.size) :
    ∃ (a : Option Addr) (n cap : Nat) (ss : List ByteArray), v = .slice a n cap ∧ n ≤ ss.length ∧ n ≤ cap ∧ cap ≤ maxLen ∧ (∀ s ∈ ss, s.size ≤ maxLen) ∧ ss.length = cap ∧ (d = .nil ∨ d = .slice (strs (ss.take n)) (strs (ss.drop n))) ∧
      ∀ j, j < n → ∃ b off, a = some ⟨b, off, none⟩ ∧ b < W.heap.size ∧ W.cell? ⟨b, off + j, none⟩ = some (.string (ss.getD j .empty)) := by
  obtain ⟨a0, len, cap, rfl⟩ := hok
  obtain ⟨fuel, hf⟩ := h
  rcases open_strings Tryd.underlying32 Tryd.underlying9 cells9 hf with ⟨hcs, hx⟩ | ⟨a, len', cap', ss, hcs, _, hl, hm, hz, hx, hcell, hws⟩
  · simp [Value.cells] at hcs
    obtain ⟨rfl, rfl, rfl⟩ := hcs
    exact ⟨none, 0, 0, [], rfl, Nat.zero_le _, Nat.zero_le _, Nat.zero_le _, (by simp), rfl, Or.inl (Prod.mk.inj hx).1, fun j hj => absurd hj (Nat.not_lt_zero j)⟩
  · simp [Value.cells] at hcs
    obtain ⟨rfl, rfl, rfl⟩ := hcs
    simp only [if_true] at hz
    obtain ⟨rfl, rfl⟩ := Prod.mk.inj hx
    refine ⟨some a, len, cap, ss, rfl, by omega, hl, hm, hws, hz, Or.inr rfl, fun j hj => ?_⟩
    obtain ⟨b, off, spot⟩ := a
    have hspot : spot = none := by simpa [Addr.add] using World.cell?_spot (hcell 0 (by omega))
    subst hspot
    exact ⟨b, off, rfl, hlt (.cell b off) (MemPlace.mem_row.2 ⟨0, by omega, by simp⟩), by rw [← add_plain]; exact hcell j (by omega)⟩
end Go.Proofs.YtgdjnohhofbcnaaDoor
end
section
namespace Go.Proofs.YtgdjnohhofbcnaaDoor
open Go.RowKit WordM

open Classical in
/-- the period of a word; 0 for the empty one -/
noncomputable def perW (l : List Int) : Nat := if h : l.length ≠ 0 ∧ ∃ p, IsPer l p then h.2.choose else 0
theorem perW_eq {l : List Int} {p : Nat} (h0 : l.length ≠ 0) (h : IsPer l p) : perW l = p := by
  unfold perW
  have hx : l.length ≠ 0 ∧ ∃ p, IsPer l p := ⟨h0, p, h⟩
  rw [dif_pos hx]
  exact isPer_unique hx.2.choose_spec h
theorem perW_nil : perW [] = 0 := by unfold perW; rw [dif_neg (by simp)]
open Classical in
/-- the least turn of a word; 0 for the empty one -/
noncomputable def leastW (l : List Int) : Nat := if h : ∃ p, IsLeast l p then h.choose else 0
theorem leastW_eq {l : List Int} {p : Nat} (h : IsLeast l p) : leastW l = p := by
  unfold leastW
  have hx : ∃ p, IsLeast l p := ⟨p, h⟩
  rw [dif_pos hx]
  exact isLeast_unique hx.choose_spec h
theorem leastW_nil : leastW [] = 0 := by
  unfold leastW
  rw [dif_neg]
  rintro ⟨p, h⟩
  have := h.1
  simp at this
theorem leastW_is {l : List Int} (h : 0 < l.length) : IsLeast l (leastW l) := by
  obtain ⟨p, hp⟩ := least_exists h
  rw [leastW_eq hp]; exact hp

theorem piece_same {l : List Int} {q n : Nat} (hn : n = l.length) (hd : q ∣ n) (h : sameI (l.drop q) (l.take (n - q)) = true) : Per l q := by
  have e : l.drop q = l.take (n - q) := by simpa [sameI] using h
  refine per_piece (by rw [← hn]; exact hd) (fun i hi => ?_)
  have h1 := congrArg (fun x : List Int => x[i]?) e
  simp only [List.getElem?_drop, List.getElem?_take] at h1
  rw [if_pos (by omega)] at h1
  rw [Nat.add_comm]
  exact h1
theorem piece_other {l : List Int} {q n : Nat} (hn : n = l.length) (hq : q ≤ n) (h : sameI (l.drop q) (l.take (n - q)) = false) : ¬ Per l q := by
  intro k
  have e : ¬ l.drop q = l.take (n - q) := by simpa [sameI] using h
  apply e
  apply List.ext_getElem?
  intro i
  rw [List.getElem?_drop, List.getElem?_take]
  by_cases hi : i < n - q
  · rw [if_pos hi, Nat.add_comm]
    exact piece_per k i (by omega)
  · rw [if_neg hi, List.getElem?_eq_none (by omega)]
end Go.Proofs.YtgdjnohhofbcnaaDoor
end
section
namespace Go.Proofs.YtgdjnohhofbcnaaDoor
open Go.ChangeShapes Go.WideShapes Go.ChangeAt Go.RowKit Go.Extern.Stop Go.Stop Go.Extern WordM NatM

/-- Lists that are known in the world wx; below w nothing has changed. -/
structure Si (w wx : World) (L : List Sl) : Prop where
  each : ∀ x : Sl, x ∈ L → IntV wx.heap.size wx x.1 x.2.1 x.2.2
  below : Below w.heap.size w wx
theorem Si.start (w : World) : Si w w [] := ⟨(fun x h => by cases h), Below.refl _ _⟩
theorem Si.get {w wx : World} {L : List Sl} (S : Si w wx L) (i : Nat) {p : Option Addr} {c : Nat} {l : List Int} (h : L[i]? = some (p, c, l)) : IntV wx.heap.size wx p c l := S.each _ (List.mem_of_getElem? h)
theorem Si.next {w wx w' : World} {L : List Sl} (S : Si w wx L) (hb : Below wx.heap.size wx w') : Si w w' L :=
  ⟨fun x hx => (S.each x hx).next hb, S.below.trans (hb.mono S.below.size)⟩
theorem Si.push {w wx : World} {L : List Sl} (S : Si w wx L) {p : Option Addr} {c : Nat} {l : List Int} (h : IntV wx.heap.size wx p c l) : Si w wx ((p, c, l) :: L) :=
  ⟨fun x hx => by
    rcases List.mem_cons.1 hx with rfl | hx
    · exact h
    · exact S.each x hx, S.below⟩
theorem Si.alloc {w wx : World} {L : List Sl} (S : Si w wx L) (o : Obj) : Si w (wx.alloc o) L := S.next ((Below.refl _ _).alloc (Nat.le_refl _) _)
/-- a literal of ints, just laid -/
theorem Si.lit {w wx : World} {L : List Sl} (S : Si w wx L) (l : List Int) (cs : Array Value) (t : TypeId) (hc : cs.toList = cI l) (hl : l.length ≤ 1000) :
    Si w (wx.alloc (.cells cs t)) ((some ⟨wx.heap.size, 0, none⟩, l.length, l) :: L) := (S.alloc _).push (IntV.laid l cs t hc hl)
theorem Si.drew {w wx : World} {L : List Sl} (S : Si w wx L) : Si w wx.drew L := S.next (Below.refl _ _).drew

theorem next_011 : IsNext 2 [0, 1, 1] [1, 0, 0] := Or.inl ⟨0, 0, rfl, by decide, by decide, by decide⟩
theorem ok_011 : okW 2 [0, 1, 1] := fun x hx => by simp at hx; omega
theorem chk_011 : chkW 2 [0, 1, 1] = none := by decide
def txt031 : ByteArray := { data := #[48, 51, 49] }
theorem chk_031 : chkW 4 (sW txt031) = none := by decide +kernel
theorem sW_031 : sW txt031 = [0, 3, 1] := by decide +kernel
theorem cmp_0100 : cmpW [0, 1] [0, 0] = 1 := by decide
theorem per_0101 : perW [0, 1, 0, 1] = 2 := by
  refine perW_eq (by decide) ⟨by decide, ⟨2, rfl⟩, fun i => ?_, fun q h1 h2 => ?_⟩
  · have h : i % 4 = 0 ∨ i % 4 = 1 ∨ i % 4 = 2 ∨ i % 4 = 3 := by omega
    unfold F
    show ([0, 1, 0, 1] : List Int).getD ((i + 2) % 4) 0 = ([0, 1, 0, 1] : List Int).getD (i % 4) 0
    rcases h with h | h | h | h
    · rw [h, show (i + 2) % 4 = 2 by omega]; rfl
    · rw [h, show (i + 2) % 4 = 3 by omega]; rfl
    · rw [h, show (i + 2) % 4 = 0 by omega]; rfl
    · rw [h, show (i + 2) % 4 = 1 by omega]; rfl
  · obtain rfl : q = 1 := by omega
    rintro ⟨_, h⟩
    have := h 0
    revert this
    decide

/-- every one is an int's value -/
def okI (l : List Int) : Prop := ∀ x ∈ l, -9223372036854775808 ≤ x ∧ x ≤ 9223372036854775807
theorem cellsInt_1 : Tryd.prog.cellsOf 3 = 1 := by kernel_rfl
theorem wf_i64 {n : Int} (h : (Lit.int .i64 n).wf = true) : -9223372036854775808 ≤ n ∧ n ≤ 9223372036854775807 := by
  have := bounds_i64 h
  omega
/-- an argument that is a list of ints, opened -/
theorem open_intl {H : Type} {enc : TypeId × Value → H} {W : World} {v : Value} {d : DataW H} {p : List MemPlace} (hok : ∃ a len cap, v = .slice a len cap)
    (h : DataW.Trod enc Tryd.prog W 0 (fun _ => true) true 22 v d p) (hlt : ∀ x ∈ p, x.block < W.heap.size) :
    ∃ (a : Option Addr) (cap : Nat) (l : List Int), v = .slice a l.length cap ∧ IntV W.heap.size W a cap l ∧ okI l := by
  obtain ⟨a0, len, cap, rfl⟩ := hok
  obtain ⟨fuel, hf⟩ := h
  rcases open_ints Tryd.underlying22 Tryd.underlying3 cellsInt_1 hf with ⟨hcs, _⟩ | ⟨a, len', cap', zs, hcs, _, hl, hm, hz, hx, hcell, hwf⟩
  · simp [Value.cells] at hcs
    obtain ⟨rfl, rfl, rfl⟩ := hcs
    exact ⟨none, 0, [], rfl, ⟨Nat.le_refl _, Nat.zero_le _, fun _ => rfl, fun h => absurd rfl h⟩, fun x h => by cases h⟩
  · simp [Value.cells] at hcs
    obtain ⟨rfl, rfl, rfl⟩ := hcs
    simp only [if_true] at hz
    obtain ⟨rfl, rfl⟩ := Prod.mk.inj hx
    have hlen : (zs.take len).length = len := by rw [List.length_take]; omega
    refine ⟨some a, cap, zs.take len, by rw [hlen], ⟨by rw [hlen]; exact hl, hm, (fun h => by cases h), fun hn => ?_⟩, fun x hx => wf_i64 (hwf x (List.mem_of_mem_take hx))⟩
    obtain ⟨b, off, spot⟩ := a
    have h0 : 0 < zs.length := by
      have := List.length_pos_iff.2 hn
      rw [hlen] at this
      omega
    have hspot : spot = none := by simpa [Addr.add] using World.cell?_spot (hcell 0 h0)
    subst hspot
    refine ⟨b, off, rfl, hlt (.cell b off) (MemPlace.mem_row.2 ⟨0, h0, by simp⟩), fun j x hx => ?_⟩
    have hj := ltI hx
    rw [hlen] at hj
    have hjz : j < zs.length := by omega
    have hc := hcell j hjz
    have e : zs.getD j 0 = x := by
      rw [List.getElem?_take, if_pos hj] at hx
      rw [List.getD_eq_getElem?_getD, hx]; rfl
    rw [e, add_plain] at hc
    exact hc

theorem weights_get {H : Type} {P : Program} : ∀ (ts : List TypeId) (ds : List (DataW H)) (i : Nat) (t : TypeId) (d : DataW H), ts[i]? = some t → ds[i]? = some d → ∀ x ∈ d.weights P t, x ∈ DataW.weightsEach P ts ds
  | [], _, _, _, _, h, _, _, _ => by simp at h
  | _ :: _, [], _, _, _, _, h, _, _ => by simp at h
  | t0 :: ts, d0 :: ds, 0, t, d, ht, hd, x, hx => by
    simp at ht hd; subst ht hd
    unfold DataW.weightsEach
    exact List.mem_append_left _ hx
  | t0 :: ts, d0 :: ds, i + 1, t, d, ht, hd, x, hx => by
    unfold DataW.weightsEach
    exact List.mem_append_right _ (weights_get ts ds i t d (by simpa using ht) (by simpa using hd) x hx)
theorem bytesInt : Tryd.prog.bytesOf 3 = 8 := by kernel_rfl
/-- a list of ints that came in is shorter than 2^44 -/
theorem open_reach {H : Type} {enc : TypeId × Value → H} {W : World} {a : Option Addr} {len cap : Nat} {d : DataW H} {p : List MemPlace}
    (h : DataW.Trod enc Tryd.prog W 0 (fun _ => true) true 22 (.slice a len cap) d p) (hw : ∀ x ∈ d.weights Tryd.prog 22, x ≤ reachBytes) : len ≤ 17592186043904 := by
  obtain ⟨fuel, hf⟩ := h
  rcases open_ints Tryd.underlying22 Tryd.underlying3 cellsInt_1 hf with ⟨hcs, _⟩ | ⟨a, len', cap', zs, hcs, _, hl, hm, hz, hx, hcell, hwf⟩
  · simp [Value.cells] at hcs
    omega
  · simp [Value.cells] at hcs
    obtain ⟨rfl, rfl, rfl⟩ := hcs
    simp only [if_true] at hz
    obtain ⟨rfl, rfl⟩ := Prod.mk.inj hx
    have h1 := hw ((zs.take len).length * 8 + (zs.drop len).length * 8) (by
      unfold DataW.weights
      rw [Tryd.underlying22]
      simp only [lits, List.length_map, bytesInt]
      rw [← Nat.add_mul]
      exact List.mem_cons_self ..)
    unfold reachBytes at h1
    rw [List.length_take] at h1
    omega
end Go.Proofs.YtgdjnohhofbcnaaDoor
end
section
namespace Go.Proofs.YtgdjnohhofbcnaaDoor
open Go.RowKit Go.Extern.Stop Go.Stop Go.Extern WordM RuleM NatM

theorem two_boxes (w : World) (a b c a' b' c' : Value) (w0 : World) (hw0 : w0 = (w.alloc (.cells #[a, b, c] 24)).alloc (.cells #[a', b', c'] 24)) :
    Below w.heap.size w w0 ∧ Rul3 w0 w.heap.size a b c ∧ Rul3 w0 (w.heap.size + 1) a' b' c' := by
  have h1 : Below w.heap.size w (w.alloc (.cells #[a, b, c] 24)) := (Below.refl _ _).alloc (Nat.le_refl _) _
  have h2 : Below (w.alloc (.cells #[a, b, c] 24)).heap.size (w.alloc (.cells #[a, b, c] 24)) w0 := by rw [hw0]; exact (Below.refl _ _).alloc (Nat.le_refl _) _
  have hs : (w.alloc (.cells #[a, b, c] 24)).heap.size = w.heap.size + 1 := by simp
  refine ⟨h1.trans (h2.mono h1.size), (Rul3.new w a b c).next h2, ?_⟩
  have := Rul3.new (w.alloc (.cells #[a, b, c] 24)) a' b' c'
  rw [← hw0, hs] at this
  exact this


theorem put3_block (w : World) (h : Nat) (a b c : Value) (g : Nat) (hg : g ≠ h) : (put3 w h a b c).heap[g]? = w.heap[g]? := by
  have set : ∀ (w : World) (i : Nat) (v : Value), (w.setCell ⟨h, i, none⟩ v).heap[g]? = w.heap[g]? := fun w i v => by
    show (w.heap.modify h _)[g]? = _
    rw [Array.getElem?_modify, if_neg (Ne.symm hg)]
  unfold put3
  rw [set, set, set]
/-- a rule whose table is lent -/
def LentR (w : World) (k r : Int) (t : List Int) (e : Ending) (w' : World) : Prop :=
  ∃ g, e = .returned (.agg #[.int .i64 k, .int .i64 r, .slice (some ⟨g, 0, none⟩) t.length (t.length + 2)]) ∧ w.heap.size ≤ g ∧ LentI w' g t ∧ Below w.heap.size w w'
set_option maxRecDepth 100000 in
set_option maxHeartbeats 4000000 in
theorem lentR_any (k r : Int) (p : Option Addr) (n c : Nat) (t : List Int) (w : World) (hn : n = t.length) (h : IntV w.heap.size w p c t) (hl : t.length ≤ 17592186043904) :
    Calls Tryd.prog 10 #[.agg #[.int .i64 k, .int .i64 r, .slice p n c]] w (LentR w k r t) := by
  have hlent : ∀ W, IntV W.heap.size W p c t → Calls Tryd.prog 11 #[.slice p n c] W (LentPostI W t) := fun W hW => by rw [hn]; exact lentI_any p c t W hW hl
  unfold LentPostI at hlent
  unfold LentR
  rw [← hn]
  simp only [← hn] at hlent
  have H := Lib.hid (And.intro h (And.intro hlent hn))
  clear h hlent hl hn
  go_enter Tryd.func10, Tryd.ntmps10
  go_upto_region 1 with fail
  obtain ⟨w0, hw0⟩ : ∃ w0, w0 = (w.alloc (.cells #[.int .i64 k, .int .i64 r, .slice p n c] 24)).alloc (.cells #[.int .i64 0, .int .i64 0, .slice none 0 0] 24) := ⟨_, rfl⟩
  obtain ⟨hb0, hE0, hE1⟩ := two_boxes w _ _ _ _ _ _ w0 hw0
  rw [← hw0]
  have hsz : (w.alloc (.cells #[.int .i64 k, .int .i64 r, .slice p n c] 24)).heap.size = w.heap.size + 1 := by simp
  have hs0 := hb0.size
  have hs1 := hE1.lt
  have hlen : ∀ wx, Below w0.heap.size w0 wx → Calls Tryd.prog 11 #[.slice p n c] wx fun e w' => e = .returned (.slice (some ⟨wx.heap.size, 0, none⟩) n (n + 2)) ∧ LentI w' wx.heap.size t ∧ Below wx.heap.size wx w' := fun wx hb => H.out.2.1 wx ((H.out.1.next hb0).next hb)
  have hxA : ∀ wx : World, Below w0.heap.size w0 wx → wx.cell? ⟨w.heap.size, 0, none⟩ = some (.int .i64 k) := fun wx hbx => (hE0.next hbx).facts.2.1
  have hxB : ∀ wx : World, Below w0.heap.size w0 wx → wx.cell? ⟨w.heap.size, 1, none⟩ = some (.int .i64 r) := fun wx hbx => (hE0.next hbx).facts.2.2.1
  have hxC : ∀ wx : World, Below w0.heap.size w0 wx → wx.cell? ⟨w.heap.size, 2, none⟩ = some (.slice p n c) := fun wx hbx => (hE0.next hbx).facts.2.2.2
  have hd0 : Below w0.heap.size w0 w0.drew := (Below.refl _ _).drew
  have HE := Lib.hid (And.intro hE1 hb0)
  clear hw0 hE0 hE1 hb0
  go_region_held3 (fun w' => w'.cell? ⟨w.heap.size, 0, none⟩ = some (.int .i64 k) ∧ w'.cell? ⟨w.heap.size, 1, none⟩ = some (.int .i64 r) ∧ w'.cell? ⟨w.heap.size, 2, none⟩ = some (.slice p n c)) (first | exact ⟨hxA _ hd0, hxB _ hd0, hxC _ hd0⟩ | exact ⟨hxA _ (Below.refl _ _), hxB _ (Below.refl _ _), hxC _ (Below.refl _ _)⟩ | exact ⟨hA1, hB1, hC1⟩ | go_keep) (first | (go_at_call 11; refine (hlen _ (by first | exact hd0 | exact Below.refl _ _)).mono ?_; rintro e wl ⟨rfl, hLl, hbl⟩; have hBl : Below w0.heap.size w0 wl := (by first | exact hd0.trans (hbl.mono hd0.size) | exact hbl); have hA1 := hxA wl hBl; have hB1 := hxB wl hBl; have hC1 := hxC wl hBl; obtain ⟨⟨hf0, hf1, hf2⟩, hz0, hz1, hz2⟩ := (HE.out.1.next hBl).facts))
  all_goals
    have HF := Lib.hid (And.intro hLl (HE.out.2.trans (hBl.mono (by omega))))
    clear hxA hxB hxC hlen hbl hBl hLl hA1 hB1 hC1
    go_wp2_with fail
    refine bodyPost_ret (v := .agg #[.int .i64 k, .int .i64 r, .slice (some ⟨w0.heap.size, 0, none⟩) n (n + 2)]) (by simp [results, Tryd.results10, go_sem, hz0, hz1, hz2]) rfl ⟨w0.heap.size, rfl, hs0, ?_, ?_⟩
    · exact LentI.block (put3_block wl (w.heap.size + 1) _ _ _ _ (by omega)) HF.out.1
    · exact put3_below HF.out.2 (by omega) _ _ _

set_option maxRecDepth 100000 in
set_option maxHeartbeats 2000000 in
theorem keptR_any (g : Nat) (k r : Int) (p : Option Addr) (n m c : Nat) (t : List Int) (w : World) (hg : LentI w g t) (h : IntV w.heap.size w p c t) (hl : t.length ≤ 17592186043904) (hn : n = t.length) (hm : m = t.length + 2) :
    Calls Tryd.prog 20 #[.agg #[.int .i64 k, .int .i64 r, .slice (some ⟨g, 0, none⟩) n m], .agg #[.int .i64 k, .int .i64 r, .slice p n c]] w (Tells (.bool true) w) := by
  have H := Lib.hid (And.intro h (And.intro hg (And.intro hn (And.intro hm hl))))
  clear h hg hn hm hl
  go_enter Tryd.func20, Tryd.ntmps20
  go_upto_region 1 with fail
  obtain ⟨w0, hw0⟩ : ∃ w0, w0 = (w.alloc (.cells #[.int .i64 k, .int .i64 r, .slice (some ⟨g, 0, none⟩) n m] 24)).alloc (.cells #[.int .i64 k, .int .i64 r, .slice p n c] 24) := ⟨_, rfl⟩
  obtain ⟨hb0, hE0, hE1⟩ := two_boxes w _ _ _ _ _ _ w0 hw0
  rw [← hw0]
  obtain ⟨_, hc0, hc1, hc2⟩ := hE0.facts
  obtain ⟨_, hd0, hd1, hd2⟩ := hE1.facts
  have HE := Lib.hid hb0
  have hsz : (w.alloc (.cells #[.int .i64 k, .int .i64 r, .slice (some ⟨g, 0, none⟩) n m] 24)).heap.size = w.heap.size + 1 := by simp
  clear hw0 hE0 hE1 hb0
  go_wp2_with fail
  have hk := keptI_any g p n m c t w0 (H.out.2.1.below HE.out) (H.out.1.next HE.out) H.out.2.2.2.2 H.out.2.2.1 H.out.2.2.2.1
  rw [← H.out.2.2.1] at hk
  refine hk.mono ?_
  rintro e w1 ⟨rfl, hb1⟩
  have HF := Lib.hid (HE.out.trans (hb1.mono HE.out.size))
  clear hb1 hk
  go_wp2_with fail
  go_ret
  exact ⟨rfl, HF.out⟩

def T110 : List Int := [0, 1, 1, 1, 0, 1, 1, 0]
def txt110 : ByteArray := { data := #[50, 46, 49, 46, 49, 49, 48] }
def ParsePost110 (w : World) (e : Ending) (w' : World) : Prop :=
  ∃ p c, e = .returned (.tuple #[.agg #[.int .i64 2, .int .i64 1, .slice p 8 c], .nilIface]) ∧ IntO w.heap.size w' p c T110 ∧ Below w.heap.size w w'
theorem ok110 : OkR 2 1 T110 := ⟨by decide, by decide, by decide, by decide, fun x hx => by unfold T110 at hx; simp at hx; omega⟩
def W5 : List Int := [0, 0, 1, 1, 1]
theorem ok5 : okW 2 W5 := fun x hx => by unfold W5 at hx; simp at hx; omega
theorem img110 : imgW 2 1 T110 W5 = [1, 1, 0] := by decide +kernel
theorem step_110 (p q : Option Addr) (c d : Nat) (w : World) (h : IntV w.heap.size w p c T110) (hl : IntV w.heap.size w q d W5) :
    Calls Tryd.prog 26 #[.agg #[.int .i64 2, .int .i64 1, .slice p 8 c], .slice q 5 d] w (IntOk w [1, 1, 0]) := by
  have := step_ok 2 1 p q 8 c 5 d T110 W5 w rfl rfl h hl (chkT_ok ok110 (by decide) ok5)
  have e : imgW (2 : Int).toNat (1 : Int).toNat T110 W5 = [1, 1, 0] := img110
  rwa [e] at this
theorem check_5 (w : World) (A : Nat → Addr) (hr : Roots w A) : Calls Tryd.prog 47 #[.agg #[.int .i64 5, .int .i64 0, .slice none 0 0]] w (Err1 w A ruleOp 0 1) :=
  rcheck_bad 5 0 none 0 0 [] w A hr rfl (IntV.nothing w) 0 (by decide)

end Go.Proofs.YtgdjnohhofbcnaaDoor
end
section
namespace Go.Proofs.YtgdjnohhofbcnaaDoor
open Go.RowKit Go.Extern.Stop Go.Stop Go.Extern WordM RuleM NatM

def T90 : List Int := [0, 1, 0, 1, 1, 0, 1, 0]
theorem ok90 : OkR 2 1 T90 := ⟨by decide, by decide, by decide, by decide, fun x hx => by unfold T90 at hx; simp at hx; omega⟩
def V5 : List Int := [0, 0, 1, 0, 0]
theorem okV5 : okW 2 V5 := fun x hx => by unfold V5 at hx; simp at hx; omega
theorem ring90 : ringW 2 1 T90 V5 = [0, 1, 0, 1, 0] := by decide +kernel
def V4 : List Int := [0, 0, 1, 0]
theorem okV4 : okW 2 V4 := fun x hx => by unfold V4 at hx; simp at hx; omega
theorem orb90 : IsOrb 2 1 T90 V4 2 1 :=
  ⟨by decide, by decide +kernel, fun i j h1 h2 => by
    rcases (by omega : (i = 0 ∧ j = 1) ∨ (i = 0 ∧ j = 2) ∨ (i = 1 ∧ j = 2)) with ⟨rfl, rfl⟩ | ⟨rfl, rfl⟩ | ⟨rfl, rfl⟩ <;> decide +kernel⟩
theorem step_90 (p q : Option Addr) (c d : Nat) (w : World) (h : IntV w.heap.size w p c T90) (hl : IntV w.heap.size w q d V5) :
    Calls Tryd.prog 12 #[.agg #[.int .i64 2, .int .i64 1, .slice p 8 c], .slice q 5 d] w (IntOk w [0, 1, 0, 1, 0]) := by
  have := gStep_ok 2 1 p q 8 c 5 d T90 V5 w rfl rfl h hl ok90 (by decide) (by decide) okV5
  rwa [ring90] at this
theorem orbit_90 (p q : Option Addr) (c d : Nat) (w : World) (A : Nat → Addr) (hr : Roots w A) (h : IntV w.heap.size w p c T90) (hl : IntV w.heap.size w q d V4) :
    Calls Tryd.prog 22 #[.agg #[.int .i64 2, .int .i64 1, .slice p 8 c], .slice q 4 d] w (Tells (.tuple #[.int .i64 2, .int .i64 1, .nilIface]) w) :=
  (gOrbit_ok 2 1 p q 8 c 4 d T90 V4 w A hr rfl rfl h hl ok90 (by decide) (by decide) okV4).mono fun e w' hp => by
    rcases hp with ⟨m, p, ho, _, he, hb⟩ | ⟨hn, _⟩
    · obtain ⟨rfl, rfl⟩ := ho.unique orb90
      exact ⟨he, hb⟩
    · exact absurd orb90.again.symm (hn 2 3 (by omega) (by omega))

set_option maxRecDepth 100000 in
set_option maxHeartbeats 8000000 in
theorem awakeG (w : World) (A : Nat → Addr) (hr : Roots w A) : Calls Tryd.prog 9 #[] w (Tells (.bool true) w) := by
  have HR := Lib.hid hr
  clear hr
  go_enter Tryd.func9, Tryd.ntmps9
  go_upto_region 2 with fail
  obtain ⟨w1, hw1⟩ : ∃ x, x = w.alloc (.cells #[.int .i64 0, .int .i64 1, .int .i64 0, .int .i64 1, .int .i64 1, .int .i64 0, .int .i64 1, .int .i64 0] 3) := ⟨_, rfl⟩
  have S1 := (Si.start w).lit T90 #[.int .i64 0, .int .i64 1, .int .i64 0, .int .i64 1, .int .i64 1, .int .i64 0, .int .i64 1, .int .i64 0] 3 rfl (by decide)
  rw [← hw1] at S1 ⊢
  have hs1 : w1.heap.size = w.heap.size + 1 := by rw [hw1]; simp
  obtain ⟨w2, hw2⟩ : ∃ x, x = w1.alloc (.cells #[.int .i64 2, .int .i64 1, .slice (some ⟨w.heap.size, 0, none⟩) 8 8] 24) := ⟨_, rfl⟩
  obtain ⟨hb2, hE2⟩ := box_rule w1 _ _ _ w2 hw2
  rw [← hw2]
  rw [hs1] at hE2
  have S2 := Lib.hid (And.intro (S1.next hb2) hE2)
  obtain ⟨_, hc0, hc1, hc2⟩ := hE2.facts
  clear hw1 S1 hw2 hb2 hE2 hs1
  go_wp2_with fail
  have S3 := Lib.hid (S2.out.1.lit V5 #[.int .i64 0, .int .i64 0, .int .i64 1, .int .i64 0, .int .i64 0] 3 rfl (by decide))
  refine (step_90 _ _ _ _ _ (S3.out.get 1 rfl) (S3.out.get 0 rfl)).mono ?_
  rintro e w3 ⟨p3, c3, rfl, ho3, hb3⟩
  have hbx := ((Below.refl w2.heap.size w2).alloc (Nat.le_refl _) (.cells #[.int .i64 0, .int .i64 0, .int .i64 1, .int .i64 0, .int .i64 0] 3))
  have hE3 := S2.out.2.next (hbx.trans (hb3.mono hbx.size))
  have S4 := Lib.hid (And.intro ((S3.out.next hb3).push ho3.toV) hE3)
  clear hc0 hc1 hc2 hb3 ho3 hbx S3
  obtain ⟨_, hc0, hc1, hc2⟩ := hE3.facts
  clear hE3
  go_wp2_with fail
  have S5 := Lib.hid (S4.out.1.lit V4 #[.int .i64 0, .int .i64 0, .int .i64 1, .int .i64 0] 3 rfl (by decide))
  refine (orbit_90 _ _ _ _ _ A (HR.out.below S5.out.below) (S5.out.get 3 rfl) (S5.out.get 0 rfl)).mono ?_
  rintro e w4 ⟨rfl, hb4⟩
  have S6 := Lib.hid (S5.out.next hb4)
  clear hb4 hc0 hc1 hc2
  go_wp2_with fail
  have S7 := Lib.hid (S6.out.lit [0, 1, 0, 1, 0] #[.int .i64 0, .int .i64 1, .int .i64 0, .int .i64 1, .int .i64 0] 3 rfl (by decide))
  refine (ints_any _ _ _ _ _ _ [0, 1, 0, 1, 0] [0, 1, 0, 1, 0] _ rfl rfl (S7.out.get 2 rfl) (S7.out.get 0 rfl)).mono ?_
  rintro e w5 ⟨rfl, hb5⟩
  rw [sameI_self]
  have S8 := Lib.hid (S7.out.next hb5).below
  clear hb5
  go_wp2_with fail
  go_ret
  exact ⟨rfl, S8.out⟩
end Go.Proofs.YtgdjnohhofbcnaaDoor
end
section
namespace Go.Proofs.YtgdjnohhofbcnaaDoor
open Go.RowKit Go.Extern.Stop Go.Stop Go.Extern WordM RuleM

def GAfterRel (w1 : World) (K R N m : Nat) (t l : List Int) (v9 v20 : Value) (wr : World) : Prop :=
  ∃ (j : Nat) (p' : Option Addr) (c' : Nat), j ≤ N ∧ v20 = .int .i64 (j : Int) ∧ v9 = .slice p' m c' ∧ IntO w1.heap.size wr p' c' (stepsW K R t j l) ∧ Below w1.heap.size w1 wr
set_option maxRecDepth 100000 in
set_option maxHeartbeats 4000000 in
theorem gAfter_ok (K R N : Nat) (p q : Option Addr) (n c m d : Nat) (t l : List Int) (w : World) (hn : n = t.length) (hm : m = l.length) (h : IntV w.heap.size w p c t) (h' : IntV w.heap.size w q d l) (ho : OkR K R t) (h0 : 0 < l.length) (h4 : l.length ≤ 4096) (hw : okW K l) (hN : N ≤ 262144 / l.length) :
    Calls Tryd.prog 14 #[.agg #[.int .i64 (K : Int), .int .i64 (R : Int), .slice p n c], .slice q m d, .int .i64 (N : Int)] w (IntOk w (stepsW K R t N l)) := by
  have ST := Lib.hid (box_rule w (.int .i64 (K : Int)) (.int .i64 (R : Int)) (.slice p n c))
  have hN2 : N ≤ 262144 := Nat.le_trans hN (Nat.div_le_self _ _)
  have hclone := fun W hW => cloneI_any q d l W hW (by omega)
  unfold IntPost at hclone
  simp only [← hm] at hclone
  have H := Lib.hid (And.intro hn (And.intro hm (And.intro h (And.intro h' (And.intro ho (And.intro h0 (And.intro h4 (And.intro hw (And.intro hN hclone)))))))))
  clear hn hm h h' ho h0 h4 hw hN hclone
  go_enter Tryd.func14, Tryd.ntmps14
  go_upto_region 1 with fail
  obtain ⟨w0, hw0⟩ : ∃ w0, w0 = w.alloc (.cells #[.int .i64 (K : Int), .int .i64 (R : Int), .slice p n c] 24) := ⟨_, rfl⟩
  rw [← hw0]
  obtain ⟨hb0, hE0⟩ := ST.out w0 hw0
  have HE := Lib.hid (And.intro hE0 hb0)
  obtain ⟨_, hc0, hc1, hc2⟩ := hE0.facts
  clear hw0 hE0 hb0
  go_wp2_with fail
  refine (gsteps_ok K R N p q n c m d t l w0 H.out.1 H.out.2.1 (H.out.2.2.1.next HE.out.2) (H.out.2.2.2.1.next HE.out.2) H.out.2.2.2.2.1 H.out.2.2.2.2.2.1 H.out.2.2.2.2.2.2.1 H.out.2.2.2.2.2.2.2.1 H.out.2.2.2.2.2.2.2.2.1).mono ?_
  rintro e w1 ⟨rfl, hb1⟩
  have H1 := Lib.hid (And.intro (HE.out.2.trans (hb1.mono HE.out.2.size)) (HE.out.1.next hb1))
  clear hb1 hc0 hc1 hc2
  go_wp2_with fail
  refine (H.out.2.2.2.2.2.2.2.2.2 w1 (H.out.2.2.2.1.next H1.out.1)).mono ?_
  rintro e w2 ⟨p2, c2, rfl, ho2, hb2⟩
  have H2 := Lib.hid (And.intro ho2 (And.intro hb2 (H1.out.2.next hb2)))
  clear ho2 hb2
  go_wp2_with fail
  go_loopw [9, 20] (fun v9 v20 wr => GAfterRel w1 K R N m t l v9 v20 wr) (fun _ v _ => N - (intOf v).toNat)
  case atStart => exact ⟨0, p2, c2, Nat.zero_le _, rfl, rfl, H2.out.1, H2.out.2.1⟩
  case round =>
    obtain ⟨j, p', c', hj, rfl, rfl, hor, hb⟩ := hrel
    have HR := Lib.hid (And.intro hor (And.intro hb (And.intro (H1.out.2.next hb) (H1.out.1.trans (hb.mono H1.out.1.size)))))
    clear hor hb
    by_cases hlt : j < N
    · obtain ⟨_, hc0, hc1, hc2⟩ := HR.out.2.2.1.facts
      go_wp2_with fail
      have hlen : (stepsW K R t j l).length = m := by rw [stepsW_length]; exact H.out.2.1.symm
      refine (gstep_ok K R p p' n c m c' t (stepsW K R t j l) wr H.out.1 hlen.symm (H.out.2.2.1.next HR.out.2.2.2) HR.out.1.toV H.out.2.2.2.2.1 (by have := H.out.2.1; have := H.out.2.2.2.2.2.1; omega) (by have := H.out.2.1; have := H.out.2.2.2.2.2.2.1; omega) (stepsW_ok H.out.2.2.2.2.1 _ _ H.out.2.2.2.2.2.1 H.out.2.2.2.2.2.2.2.1)).mono ?_
      rintro e w3 ⟨p3, c3, rfl, ho3, hb3⟩
      rw [ringW_length, hlen]
      rw [← stepsW_succ] at ho3
      have H3 := Lib.hid (And.intro (ho3.base HR.out.2.1.size) (HR.out.2.1.trans (hb3.mono HR.out.2.1.size)))
      clear ho3 hb3 hc0 hc1 hc2 hlen
      go_wp2_with fail
      go_roundw
      case rel => exact ⟨j + 1, p3, c3, by omega, by go_num, rfl, H3.out.1, H3.out.2⟩
      case measure => simp [intOf]; omega
    · obtain rfl : j = N := by omega
      have hlen : (stepsW K R t j l).length = m := by rw [stepsW_length]; exact H.out.2.1.symm
      have HL := Lib.hid hlen
      clear hlen
      go_wp2_with fail
      go_ret2
      exact ⟨p', c', by rw [HL.out]; rfl, HR.out.1.base H1.out.1.size, HR.out.2.2.2⟩
set_option maxRecDepth 100000 in
set_option maxHeartbeats 4000000 in
theorem gAfter_bad (k r z : Int) (p q : Option Addr) (n c m d : Nat) (t l : List Int) (w : World) (A : Nat → Addr) (hr : Roots w A) (hT : TypeVar w) (hn : n = t.length) (hm : m = l.length) (h : IntV w.heap.size w p c t) (h' : IntV w.heap.size w q d l) (L : List (ByteArray × Int)) (M : Nat) (hc : chkA k r t l z = some (L, M)) :
    Calls Tryd.prog 14 #[.agg #[.int .i64 k, .int .i64 r, .slice p n c], .slice q m d, .int .i64 z] w (FErr2 w A L M (.slice none 0 0)) := by
  have ST := Lib.hid (box_rule w (.int .i64 k) (.int .i64 r) (.slice p n c))
  have H := Lib.hid (And.intro hn (And.intro hm (And.intro h (And.intro h' (And.intro hr (And.intro hT hc))))))
  clear hn hm h h' hr hT hc
  go_enter Tryd.func14, Tryd.ntmps14
  go_upto_region 1 with fail
  obtain ⟨w0, hw0⟩ : ∃ w0, w0 = w.alloc (.cells #[.int .i64 k, .int .i64 r, .slice p n c] 24) := ⟨_, rfl⟩
  rw [← hw0]
  obtain ⟨hb0, hE0⟩ := ST.out w0 hw0
  have HE := Lib.hid (And.intro hE0 hb0)
  obtain ⟨_, hc0, hc1, hc2⟩ := hE0.facts
  clear hw0 hE0 hb0
  go_wp2_with fail
  refine (gsteps_bad k r z p q n c m d t l w0 A (H.out.2.2.2.2.1.below HE.out.2) (H.out.2.2.2.2.2.1.below HE.out.2) H.out.1 H.out.2.1 (H.out.2.2.1.next HE.out.2) (H.out.2.2.2.1.next HE.out.2) L M H.out.2.2.2.2.2.2).mono ?_
  rintro e w1 ⟨b, rfl, hl, hb1⟩
  have H1 := Lib.hid (And.intro hl (HE.out.2.trans (hb1.mono HE.out.2.size)))
  clear hb1 hc0 hc1 hc2 hl
  go_wp2_with fail
  go_ret2
  exact ⟨b, rfl, H1.out.1, H1.out.2⟩
end Go.Proofs.YtgdjnohhofbcnaaDoor
end
section
namespace Go.Proofs.YtgdjnohhofbcnaaDoor
open Go.RowKit Go.Extern.Stop Go.Stop Go.Extern WordM RuleM

theorem IntV.far {B : Nat} {w : World} {p : Option Addr} {c : Nat} {l : List Int} (h : IntV B w p c l) {g i : Nat} {v : Value} (hg : ∀ b off, p = some ⟨b, off, none⟩ → b ≠ g) : IntV B (w.setCell ⟨g, i, none⟩ v) p c l :=
  ⟨h.le, h.cap, h.nil, fun hn => by
    obtain ⟨b, off, hp, hlt, hc⟩ := h.cell hn
    exact ⟨b, off, hp, hlt, fun j x hx => (World.cell?_setCell_far w ⟨g, i, none⟩ ⟨b, off + j, none⟩ _ (fun e => hg b off hp e.symm)).trans (hc j x hx)⟩⟩
def GTraceRel (w1 : World) (K R N m : Nat) (t l : List Int) (v1 v22 : Value) (wr : World) : Prop :=
  ∃ (j : Nat) (p' : Option Addr) (c' : Nat), j ≤ N ∧ v22 = .int .i64 (j : Int) ∧ v1 = .slice p' m c' ∧ IntV wr.heap.size wr p' c' (stepsW K R t j l) ∧ (∀ b off, p' = some ⟨b, off, none⟩ → b ≠ w1.heap.size) ∧ IntO w1.heap.size wr (some ⟨w1.heap.size, 0, none⟩) N ((traceW K R t N l).take j ++ List.replicate (N - j) 0) ∧ Below w1.heap.size w1 wr
set_option maxRecDepth 100000 in
set_option maxHeartbeats 4000000 in
theorem gTrace_ok (K R N : Nat) (p q : Option Addr) (n c m d : Nat) (t l : List Int) (w : World) (hn : n = t.length) (hm : m = l.length) (h : IntV w.heap.size w p c t) (h' : IntV w.heap.size w q d l) (ho : OkR K R t) (h0 : 0 < l.length) (h4 : l.length ≤ 4096) (hw : okW K l) (hN : N ≤ 262144 / l.length) :
    Calls Tryd.prog 16 #[.agg #[.int .i64 (K : Int), .int .i64 (R : Int), .slice p n c], .slice q m d, .int .i64 (N : Int)] w (IntOk w (traceW K R t N l)) := by
  have ST := Lib.hid (box_rule w (.int .i64 (K : Int)) (.int .i64 (R : Int)) (.slice p n c))
  have hN2 : N ≤ 262144 := Nat.le_trans hN (Nat.div_le_self _ _)
  have hmk := makeI N (by omega)
  have hm0 : 0 < m := by omega
  have hle := h'.le
  have H := Lib.hid (And.intro hn (And.intro hm (And.intro h (And.intro h' (And.intro ho (And.intro h0 (And.intro h4 (And.intro hw hN))))))))
  clear hn hm h h' ho h0 h4 hw hN hle
  go_enter Tryd.func16, Tryd.ntmps16
  go_upto_region 1 with fail
  obtain ⟨w0, hw0⟩ : ∃ w0, w0 = w.alloc (.cells #[.int .i64 (K : Int), .int .i64 (R : Int), .slice p n c] 24) := ⟨_, rfl⟩
  rw [← hw0]
  obtain ⟨hb0, hE0⟩ := ST.out w0 hw0
  have HE := Lib.hid (And.intro hE0 hb0)
  obtain ⟨_, hc0, hc1, hc2⟩ := hE0.facts
  clear hw0 hE0 hb0
  go_wp2_with fail
  refine (gsteps_ok K R N p q n c m d t l w0 H.out.1 H.out.2.1 (H.out.2.2.1.next HE.out.2) (H.out.2.2.2.1.next HE.out.2) H.out.2.2.2.2.1 H.out.2.2.2.2.2.1 H.out.2.2.2.2.2.2.1 H.out.2.2.2.2.2.2.2.1 H.out.2.2.2.2.2.2.2.2).mono ?_
  rintro e w1 ⟨rfl, hb1⟩
  have H1 := Lib.hid (And.intro (HE.out.2.trans (hb1.mono HE.out.2.size)) (HE.out.1.next hb1))
  clear hb1 hc0 hc1 hc2
  have hmk1 := hmk w1
  have ho0 := IntO.made w1 N (by omega)
  obtain ⟨w2, hw2⟩ : ∃ x, x = w1.alloc (.cells (madeCells #[.int .i64 0] N) 3) := ⟨_, rfl⟩
  have hb2 : Below w1.heap.size w1 w2 := by rw [hw2]; exact (Below.refl _ _).alloc (Nat.le_refl _) _
  rw [← hw2] at hmk1 ho0
  have H2 := Lib.hid (And.intro ho0 hb2)
  clear hmk ho0 hb2 hw2
  go_wp2_with fail
  clear hmk1
  go_loopw [1, 22] (fun v1 v22 wr => GTraceRel w1 K R N m t l v1 v22 wr) (fun _ v _ => N - (intOf v).toNat)
  case atStart =>
    refine ⟨0, q, d, Nat.zero_le _, rfl, rfl, (H.out.2.2.2.1.next (H1.out.1)).next H2.out.2, ?_, by simpa using H2.out.1, H2.out.2⟩
    rintro b off rfl
    obtain ⟨b', off', hp, hlt, _⟩ := H.out.2.2.2.1.cell (by have := H.out.2.2.2.2.2.1; rintro rfl; simp at this)
    obtain ⟨rfl, rfl⟩ : b = b' ∧ off = off' := by simpa using hp
    have := H1.out.1.size
    omega
  case round =>
    obtain ⟨j, p', c', hj, rfl, rfl, hv, hap, ho, hb⟩ := hrel
    have hbw := H1.out.1.trans (hb.mono H1.out.1.size)
    have hlen : (stepsW K R t j l).length = m := by rw [stepsW_length]; exact H.out.2.1.symm
    by_cases hlt : j < N
    · have htl := traceW_length K R t N l
      have htg := traceW_get (k := K) (r := R) (t := t) (w := l) hlt
      obtain ⟨x, hx⟩ : ∃ x, F (stepsW K R t j l) 0 = x := ⟨_, rfl⟩
      have hx0 : (stepsW K R t j l)[0]? = some x := by rw [F_get (by omega), hx]
      obtain ⟨b, off, rfl, hbb, hcell⟩ := hv.cell (by rintro e; rw [e] at hlen; simp at hlen; omega)
      have hcx : wr.cell? ⟨b, off, none⟩ = some (.int .i64 x) := hcell 0 x hx0
      have hbne := hap b off rfl
      have hmc : m ≤ c' := by have := hv.le; omega
      rw [hx] at htg
      obtain ⟨I, hI⟩ : ∃ I, traceW K R t N l = I := ⟨_, rfl⟩
      rw [hI] at htl htg ho
      have hput := put_next htg hlt
      have hmid := mid_len (l := I) (j := j) (n := N) (by omega) (by omega)
      obtain ⟨xs, hxs⟩ : ∃ xs, I.take j ++ List.replicate (N - j) (0 : Int) = xs := ⟨_, rfl⟩
      rw [hxs] at ho hput hmid
      have hown : wr.ownsRow w1.heap.size 3 1 (.slice (some ⟨w1.heap.size, 0, none⟩) N N) N (cI xs) := by
        unfold IntO at ho
        rwa [hmid] at ho
      obtain ⟨y0, hy0⟩ := getI (l := xs) (k := j) (by omega)
      have hcy : wr.cell? ⟨w1.heap.size, j, none⟩ = some (.int .i64 y0) := (hown.cellAt j (by omega)).trans (cI_get hy0)
      have hfy : wr.frozen? ⟨w1.heap.size, j, none⟩ = false := hown.frozenAt j
      obtain ⟨s1, t1'⟩ := hown.stored j (.int .i64 x)
      rw [← cI_set, hput] at s1
      obtain ⟨wS, hwS⟩ : ∃ z, z = wr.setCell ⟨w1.heap.size, j, none⟩ (.int .i64 x) := ⟨_, rfl⟩
      have hb1 : Below w1.heap.size w1 wS := by rw [hwS]; exact hb.setCell (p := ⟨w1.heap.size, j, none⟩) (Nat.le_refl _) _
      have hv1 : IntV wS.heap.size wS (some ⟨b, off, none⟩) c' (stepsW K R t j l) := by
        have h1 := hv.far (i := j) (v := .int .i64 x) hap
        rw [← hwS] at h1
        exact h1.mono (by rw [hwS]; simp [World.setCell])
      rw [← hwS] at s1
      have hmid1 := mid_len (l := I) (j := j + 1) (n := N) (by omega) (by omega)
      have hso : IntO w1.heap.size wS (some ⟨w1.heap.size, 0, none⟩) N (I.take (j + 1) ++ List.replicate (N - (j + 1)) 0) := by unfold IntO; rw [hmid1]; exact s1
      have hgw : w1.heap.size < wS.heap.size := by have := hso.lt w1.heap.size rfl; omega
      have HS := Lib.hid (And.intro hv1 (And.intro hso (And.intro hb1 (And.intro hlen (And.intro hI (And.intro (H1.out.2.next hb1) (And.intro (H1.out.1.trans (hb1.mono H1.out.1.size)) hgw)))))))
      clear hv hap ho hb hbw htl htg hx hx0 hbb hcell hput hmid hxs hown hy0 s1 t1' hb1 hv1 hmid1 hso hlen hI hgw
      go_upto_region 9 with fail
      rw [← hwS]
      obtain ⟨_, hc0, hc1, hc2⟩ := HS.out.2.2.2.2.2.1.facts
      clear hcx hcy hfy hwS
      go_wp2_with fail
      refine (gstep_ok K R p (some ⟨b, off, none⟩) n c m c' t (stepsW K R t j l) wS H.out.1 HS.out.2.2.2.1.symm (H.out.2.2.1.next HS.out.2.2.2.2.2.2.1) HS.out.1 H.out.2.2.2.2.1 (by omega) (by have := H.out.2.1; have := H.out.2.2.2.2.2.2.1; omega) (stepsW_ok H.out.2.2.2.2.1 _ _ H.out.2.2.2.2.2.1 H.out.2.2.2.2.2.2.2.1)).mono ?_
      rintro e w3 ⟨p3, c3, rfl, ho3, hb3⟩
      rw [ringW_length, HS.out.2.2.2.1]
      rw [← stepsW_succ] at ho3
      have H3 := Lib.hid (And.intro (ho3.toV) (And.intro (ho3.apart HS.out.2.2.2.2.2.2.2) (And.intro (HS.out.2.1.next hb3) (HS.out.2.2.1.trans (hb3.mono HS.out.2.2.1.size)))))
      clear ho3 hb3 hc0 hc1 hc2
      go_wp2_with fail
      go_roundw
      case rel => exact ⟨j + 1, p3, c3, by omega, by go_num, rfl, H3.out.1, H3.out.2.1, by rw [HS.out.2.2.2.2.1]; exact H3.out.2.2.1, H3.out.2.2.2⟩
      case measure => simp [intOf]; omega
    · obtain rfl : j = N := by omega
      have htl := traceW_length K R t j l
      have he : (traceW K R t j l).take j ++ List.replicate (j - j) (0 : Int) = traceW K R t j l := by
        rw [Nat.sub_self, List.replicate_zero, List.append_nil, List.take_of_length_le (by omega)]
      rw [he] at ho
      have HF := Lib.hid (And.intro (ho.base H1.out.1.size) (And.intro hbw htl))
      clear ho hb he hbw htl hv hap hlen
      go_wp2_with fail
      go_ret2
      exact ⟨some ⟨w1.heap.size, 0, none⟩, j, by rw [HF.out.2.2]; rfl, HF.out.1, HF.out.2.1⟩
set_option maxRecDepth 100000 in
set_option maxHeartbeats 4000000 in
theorem gTrace_bad (k r z : Int) (p q : Option Addr) (n c m d : Nat) (t l : List Int) (w : World) (A : Nat → Addr) (hr : Roots w A) (hT : TypeVar w) (hn : n = t.length) (hm : m = l.length) (h : IntV w.heap.size w p c t) (h' : IntV w.heap.size w q d l) (L : List (ByteArray × Int)) (M : Nat) (hc : chkA k r t l z = some (L, M)) :
    Calls Tryd.prog 16 #[.agg #[.int .i64 k, .int .i64 r, .slice p n c], .slice q m d, .int .i64 z] w (FErr2 w A L M (.slice none 0 0)) := by
  have ST := Lib.hid (box_rule w (.int .i64 k) (.int .i64 r) (.slice p n c))
  have H := Lib.hid (And.intro hn (And.intro hm (And.intro h (And.intro h' (And.intro hr (And.intro hT hc))))))
  clear hn hm h h' hr hT hc
  go_enter Tryd.func16, Tryd.ntmps16
  go_upto_region 1 with fail
  obtain ⟨w0, hw0⟩ : ∃ w0, w0 = w.alloc (.cells #[.int .i64 k, .int .i64 r, .slice p n c] 24) := ⟨_, rfl⟩
  rw [← hw0]
  obtain ⟨hb0, hE0⟩ := ST.out w0 hw0
  have HE := Lib.hid (And.intro hE0 hb0)
  obtain ⟨_, hc0, hc1, hc2⟩ := hE0.facts
  clear hw0 hE0 hb0
  go_wp2_with fail
  refine (gsteps_bad k r z p q n c m d t l w0 A (H.out.2.2.2.2.1.below HE.out.2) (H.out.2.2.2.2.2.1.below HE.out.2) H.out.1 H.out.2.1 (H.out.2.2.1.next HE.out.2) (H.out.2.2.2.1.next HE.out.2) L M H.out.2.2.2.2.2.2).mono ?_
  rintro e w1 ⟨b, rfl, hl, hb1⟩
  have H1 := Lib.hid (And.intro hl (HE.out.2.trans (hb1.mono HE.out.2.size)))
  clear hb1 hc0 hc1 hc2 hl
  go_wp2_with fail
  go_ret2
  exact ⟨b, rfl, H1.out.1, H1.out.2⟩
end Go.Proofs.YtgdjnohhofbcnaaDoor
end
section
namespace Go.Proofs.YtgdjnohhofbcnaaDoor
open Go.RowKit WordM

set_option maxRecDepth 100000 in
set_option maxHeartbeats 8000000 in
theorem least_any (p : Option Addr) (n c : Nat) (l : List Int) (w : World) (hn : n = l.length) (h : IntV w.heap.size w p c l) (hl : l.length ≤ 1000000) :
    Calls Tryd.prog 49 #[.slice p n c] w (Quiet (.int .i64 (leastW l : Int)) w) := by
  have hle := h.le
  have hcap := h.cap
  unfold maxLen at hcap
  have hnc : n ≤ c := by omega
  have hnl : n ≤ 1000000 := by omega
  have H := Lib.hid (And.intro h hn)
  clear h hn hl hle
  go_enter Tryd.func49, Tryd.ntmps49
  go_wp2_with fail
  go_loopw [4, 5, 6] (fun v4 v5 v6 wr => ∃ b r s : Nat, b ≤ n ∧ r ≤ 2 * n + 1 ∧ s ≤ n ∧ v4 = .int .i64 (b : Int) ∧ v5 = .int .i64 (r : Int) ∧ v6 = .int .i64 (s : Int) ∧ Hid (∃ a, wr = w.drewN a) ∧ Hid (Duel l b r s)) (fun v4 v5 v6 _ => 5 * n + 5 - ((intOf v4).toNat + (intOf v5).toNat + (intOf v6).toNat))
  case atStart => exact ⟨0, 1, 0, Nat.zero_le _, by omega, Nat.zero_le _, rfl, rfl, rfl, ⟨0, rfl⟩, duel_start l⟩
  case round =>
    obtain ⟨b, r, s, hbn, hrn, hsn, rfl, rfl, rfl, hdr, hD⟩ := hrel
    by_cases hr : r < n
    · by_cases hs : s < n
      · have hbr := hD.out.lt
        have hn0 : 0 < n := by omega
        have hbw : Below w.heap.size w wr := hdr.out.elim fun a e => e ▸ below_drewN (Below.refl _ _) a
        obtain ⟨bk, off, rfl, hbk, hc⟩ := (H.out.1.below hbw).cell (by have := H.out.2; rintro rfl; simp at this; omega)
        obtain ⟨i1, hi1⟩ : ∃ i, (b + s) % n = i := ⟨_, rfl⟩
        obtain ⟨i2, hi2⟩ : ∃ i, (r + s) % n = i := ⟨_, rfl⟩
        have h1n : i1 < n := by rw [← hi1]; exact Nat.mod_lt _ hn0
        have h2n : i2 < n := by rw [← hi2]; exact Nat.mod_lt _ hn0
        obtain ⟨x, hx⟩ : ∃ x, F l (b + s) = x := ⟨_, rfl⟩
        obtain ⟨y, hy⟩ : ∃ y, F l (r + s) = y := ⟨_, rfl⟩
        have hgx : l[i1]? = some x := by rw [← hx, ← F_mod, ← H.out.2, hi1, F_get (by have := H.out.2; omega)]
        have hgy : l[i2]? = some y := by rw [← hy, ← F_mod, ← H.out.2, hi2, F_get (by have := H.out.2; omega)]
        have hcx := hc i1 x hgx
        have hcy := hc i2 y hgy
        have e1 : ((b : Int) + (s : Int)) % (n : Int) = (i1 : Int) := by rw [← hi1]; rfl
        have e2 : ((r : Int) + (s : Int)) % (n : Int) = (i2 : Int) := by rw [← hi2]; rfl
        have t1 : ((b : Int) + (s : Int)).tmod (n : Int) = (i1 : Int) := by rw [Int.tmod_eq_emod_of_nonneg (by omega), e1]
        have t2 : ((r : Int) + (s : Int)).tmod (n : Int) = (i2 : Int) := by rw [Int.tmod_eq_emod_of_nonneg (by omega), e2]
        have w1 : IntKind.i64.wrap ((b : Int) + (s : Int)) = (b : Int) + (s : Int) := by rw [IntWalk.i64_in _ (by omega)]
        have w2 : IntKind.i64.wrap ((r : Int) + (s : Int)) = (r : Int) + (s : Int) := by rw [IntWalk.i64_in _ (by omega)]
        have hsl : s < l.length := by have := H.out.2; omega
        have HX := Lib.hid (And.intro hx (And.intro hy hsl))
        have hI1 : (i1 : Int) < (n : Int) := by omega
        have hI2 : (i2 : Int) < (n : Int) := by omega
        have hi1' : (0 : Int) ≤ (i1 : Int) := by omega
        have hi2' : (0 : Int) ≤ (i2 : Int) := by omega
        have hcI : (n : Int) ≤ (c : Int) := by omega
        clear hc hi1 hi2 hx hy hgx hgy hbw hsl
        have hcmp := fun W => compare_any x y W
        rcases (by omega : x < y ∨ y < x ∨ x = y) with hxy | hxy | hxy
        · simp only [cmpInt_lt hxy] at hcmp
          have HC := Lib.hid hcmp
          have hst := duel_less hD.out HX.out.2.2 (by rw [HX.out.1, HX.out.2.1]; exact hxy)
          have HS := Lib.hid hst
          clear hcmp hst
          go_wp2_with fail
          go_quiet ((go_at_call 69; first | exact quiet_add_left (HC.out _) | exact quiet_left (HC.out _)))
          go_wp2_with fail
          go_roundw
          case rel => exact ⟨b, r + s + 1, 0, hbn, by omega, by omega, rfl, by go_num, rfl, quiet_more hdr.out _, HS.out⟩
          case measure => simp [intOf]; omega
        · simp only [cmpInt_gt hxy] at hcmp
          have HC := Lib.hid hcmp
          have hst := duel_more hD.out HX.out.2.2 (by rw [HX.out.1, HX.out.2.1]; exact hxy)
          have HS := Lib.hid hst
          clear hcmp hst
          go_wp2_with fail
          go_quiet ((go_at_call 69; first | exact quiet_add_left (HC.out _) | exact quiet_left (HC.out _)))
          go_wp2_with fail
          go_roundw
          case rel => exact ⟨r, max (b + s) r + 1, 0, by omega, by omega, by omega, rfl, by congr 1; omega, rfl, quiet_more hdr.out _, HS.out⟩
          case measure => simp [intOf]; omega
        · subst hxy
          simp only [cmpInt_self] at hcmp
          have HC := Lib.hid hcmp
          have hst := duel_same hD.out (by rw [HX.out.1, HX.out.2.1])
          have HS := Lib.hid hst
          clear hcmp hst
          go_wp2_with fail
          go_quiet ((go_at_call 69; first | exact quiet_add_left (HC.out _) | exact quiet_left (HC.out _)))
          go_wp2_with fail
          go_roundw
          case rel => exact ⟨b, r, s + 1, hbn, hrn, by omega, rfl, rfl, by go_num, quiet_more hdr.out _, HS.out⟩
          case measure => simp [intOf]; omega
      · have hlw : leastW l = b := (duel_alike hD.out (by have := H.out.2; omega) (leastW_is (by have := H.out.2; omega))).symm
        have HL := Lib.hid hlw
        have hds : decide ((s : Int) < (n : Int)) = false := by rw [decide_eq_false_iff_not]; omega
        have hds2 : decide (s < n) = false := by rw [decide_eq_false_iff_not]; omega
        clear hlw
        go_wp2_with fail
        go_ret
        exact ⟨by rw [HL.out]; rfl, hdr.out⟩
    · have hlw : leastW l = b := by
        rcases Nat.eq_zero_or_pos n with h0 | h0
        · have hl0 : l = [] := List.eq_nil_of_length_eq_zero (by have := H.out.2; omega)
          rw [hl0, leastW_nil]; omega
        · exact (duel_done hD.out (by have := H.out.2; omega) (leastW_is (by have := H.out.2; omega))).symm
      have HL := Lib.hid hlw
      have hds : decide ((r : Int) < (n : Int)) = false := by rw [decide_eq_false_iff_not]; omega
      have hds2 : decide (r < n) = false := by rw [decide_eq_false_iff_not]; omega
      clear hlw
      go_wp2_with fail
      go_ret
      exact ⟨by rw [HL.out]; rfl, hdr.out⟩
end Go.Proofs.YtgdjnohhofbcnaaDoor
end
section
namespace Go.Proofs.YtgdjnohhofbcnaaDoor
open Go.RowKit Go.Extern.Stop Go.Stop Go.Extern WordM RuleM

/-- the neck of a ring -/
noncomputable def neckW (l : List Int) : List Int := rot l (leastW l)
theorem neck_turn {l : List Int} (h : 0 < l.length) : turnW l ((leastW l : Nat) : Int) = neckW l := by
  unfold turnW neckW turnN
  have h1 := (leastW_is h).1
  congr 1
  rw [← Int.natCast_emod, Int.toNat_natCast, Nat.mod_eq_of_lt h1]
set_option maxRecDepth 100000 in
set_option maxHeartbeats 4000000 in
theorem gNeck_ok (q : Option Addr) (m d : Nat) (l : List Int) (w : World) (hm : m = l.length) (h : IntV w.heap.size w q d l) (h0 : 0 < m) (hl : l.length ≤ 1000000) :
    Calls Tryd.prog 28 #[.slice q m d] w (IntOk w (neckW l)) := by
  have hnk := neck_turn (l := l) (by omega)
  have H := Lib.hid (And.intro hm (And.intro h (And.intro hl hnk)))
  clear hm h hl hnk
  go_enter Tryd.func28, Tryd.ntmps28
  go_wp2_with fail
  refine (Quiet.tells (least_any q m d l w H.out.1 H.out.2.1 H.out.2.2.1)).mono ?_
  rintro e w1 ⟨rfl, hb1⟩
  have H1 := Lib.hid hb1
  clear hb1
  go_wp2_with fail
  have ht := turn_any q m d l ((leastW l : Nat) : Int) w1 H.out.1 (H.out.2.1.next H1.out) (by have := H.out.2.2.1; omega)
  rw [H.out.2.2.2] at ht
  refine ht.mono ?_
  clear ht
  rintro e w2 ⟨p2, c2, rfl, ho2, hb2⟩
  have H2 := Lib.hid (And.intro (ho2.base H1.out.size) (H1.out.trans (hb2.mono H1.out.size)))
  clear ho2 hb2
  obtain ⟨u, hu⟩ : ∃ u, (neckW l).length = u := ⟨_, rfl⟩
  rw [hu]
  have HU := Lib.hid hu
  clear hu
  go_wp2_with fail
  go_ret2
  exact ⟨p2, c2, by rw [HU.out]; rfl, H2.out.1, H2.out.2⟩
theorem gNeck_bad (q : Option Addr) (d : Nat) (w : World) (A : Nat → Addr) (hr : Roots w A) :
    Calls Tryd.prog 28 #[.slice q 0 d] w (FErr2 w A [(ringOp, 0)] 3 (.slice none 0 0)) := by
  have H := Lib.hid hr
  clear hr
  go_enter Tryd.func28, Tryd.ntmps28
  go_wp2_with fail
  refine (new_at ringOp 0 3 w A H.out (by decide)).mono ?_
  rintro e w1 ⟨b, rfl, hl, hb1⟩
  have H1 := Lib.hid (And.intro (Chn.one hl) hb1)
  clear hl hb1
  go_wp2_with fail
  go_ret2
  exact ⟨b, rfl, H1.out.1, H1.out.2⟩
end Go.Proofs.YtgdjnohhofbcnaaDoor
end
section
namespace Go.Proofs.YtgdjnohhofbcnaaDoor
open Go.RowKit Go

theorem wp_appI {o : Oper} {a : Act} {K : Act → World → Prop} {Q : Exit → Act → World → Prop} {w : World} (s x : Operand)
    (ho : o.op = .call { callee := .builtin .append, args := #[s, x], argTypes := #[22, 22] }) (base : Nat) (p : Option Addr) (n c : Nat) (l : List Int) (hs : a.eval s = .slice p n c) (hn : n = l.length) (h : IntO base w p c l) (hB : base ≤ w.heap.size)
    (q : Option Addr) (m d : Nat) (k : List Int) (hx : a.eval x = .slice q m d) (hm : m = k.length) (h' : IntV w.heap.size w q d k) (hl : l.length ≤ 1000000) (hk : k.length ≤ 1000000)
    (hK : ∀ p' c' w', IntO base w' p' c' (l ++ k) → Below base w w' → K (a.put o.dst (.slice p' (n + m) c')) w') : o.wp Tryd.prog a w K Q := by
  obtain ⟨i0, hi, hz0, hz1, hz2⟩ := info_parts infoI
  rcases Nat.eq_zero_or_pos m with h0 | h0
  · obtain rfl : k = [] := List.eq_nil_of_length_eq_zero (by omega)
    subst h0
    have hrun := run_append_nothing (P := Tryd.prog) w 22 22 o.type 3 i0 Tryd.underlying22 hi p n c (by have := h.toV.le; omega) (.slice q 0 d)
      ⟨Or.inl ⟨_, Tryd.underlying22⟩, fun _ => by simp [Builtin.lenOf], by cases q <;> simp [Builtin.firstCells, loadCells, loadCellsFrom], by cases q <;> simp [Builtin.firstCells, loadCells, loadCellsFrom], by simp, fun u hu => by simp at hu⟩
    have := hK p c w (by rw [List.append_nil]; exact h) (Below.refl _ _)
    unfold Oper.wp execOp
    simp only [ho, resolve, invoke, builtin, Sem.run_bind, Sem.run_pure, Result.andThen_ok, List.map_toArray, List.map_cons, List.map_nil, hs, hx, hrun]
    exact this
  · obtain ⟨b, off, rfl, hb, hc⟩ := h'.cell (by rintro rfl; simp at hm; omega)
    subst hn
    refine wp_append_lies w s x 22 ho base 3 i0 (.int .i64 0) 1 8 Tryd.underlying22 hi hz0 hz1 hz2 rfl (by decide) _ l.length (cI l) hs h ⟨b, off, none⟩ m d (cI k) hx (by rw [cI_length, hm, Nat.mul_one]) ?_ ?_ h0 (by unfold maxLen; omega) (by omega) hB w.heap.size rfl ?_
    · intro j u hj
      obtain ⟨y, hy, rfl⟩ : ∃ y, k[j]? = some y ∧ u = .int .i64 y := by
        unfold cI at hj
        rw [List.getElem?_map] at hj
        cases hq : k[j]? with
        | none => rw [hq] at hj; cases hj
        | some y => rw [hq] at hj; exact ⟨y, rfl, (Option.some.inj hj).symm⟩
      rw [add_off]
      exact hc j y hy
    · intro u hu
      obtain ⟨y, _, rfl⟩ := List.mem_map.1 hu
      rfl
    · intro g cap w' hown hgrow _ _
      rw [← cI_app] at hown
      have hown2 : w'.ownsRow base 3 1 (.slice (some ⟨g, 0, none⟩) (l.length + m) cap) (l ++ k).length (cI (l ++ k)) := by rw [List.length_append, ← hm]; exact hown
      obtain ⟨p', c', he, ho'⟩ := IntO.slice_own hown2
      rw [List.length_append, ← hm] at he
      rw [he]
      exact hK p' c' w' ho' ((Below.refl _ _).grown hgrow hB (fun j hj => (World.ownsRow.lt h j hj).1))
theorem wpList_appI {ops : Array Oper} {rest : List Oper} {o : Oper} {a : Act} {Q : Exit → Act → World → Prop} {w : World} (hw : Region.wanted o (yielded ops a.tmps) = true) (s x : Operand)
    (ho : o.op = .call { callee := .builtin .append, args := #[s, x], argTypes := #[22, 22] }) (base : Nat) (p : Option Addr) (n c : Nat) (l : List Int) (hs : a.eval s = .slice p n c) (hn : n = l.length) (h : IntO base w p c l) (hB : base ≤ w.heap.size)
    (q : Option Addr) (m d : Nat) (k : List Int) (hx : a.eval x = .slice q m d) (hm : m = k.length) (h' : IntV w.heap.size w q d k) (hl : l.length ≤ 1000000) (hk : k.length ≤ 1000000)
    (hK : ∀ p' c' w', IntO base w' p' c' (l ++ k) → Below base w w' → wpList Tryd.prog ops Q rest (a.put o.dst (.slice p' (n + m) c')) w') : wpList Tryd.prog ops Q (o :: rest) a w :=
  wpList_step fun _ h2 => by
    rw [if_pos hw]
    exact wp_appI s x ho base p n c l hs hn h hB q m d k hx hm h' hl hk fun p' c' w' h1 hb => h2 _ _ (hK p' c' w' h1 hb)
end Go.Proofs.YtgdjnohhofbcnaaDoor
end
section
namespace Go.Proofs.YtgdjnohhofbcnaaDoor.apartI
open Go.RowKit

abbrev E : TypeId := 3
theorem infoE : (Tryd.prog.info? 3).map (fun i => (i.zero, i.size, i.bytes)) = some (some (.int .i64 0), 1, 8) := by kernel_rfl
theorem infoS : (Tryd.prog.info? 22).map (fun i => (i.zero, i.size, i.bytes)) = some (some (.slice none 0 0), 1, 24) := by kernel_rfl
/-- the marks -/
def m1 (i : Nat) : Value := .int .i64 (-2 * (i : Int) - 1)
def m2 (i : Nat) : Value := .int .i64 (-2 * (i : Int) - 2)

/-- A list: its address, its capacity, its length. -/
abbrev Rw := Option Addr × Nat × Nat
def Rw.val (x : Rw) : Value := .slice x.1 x.2.2 x.2.1

/-! ### rows -/
theorem shape {w : World} {B : Nat} {e : TypeId} {a : Option Addr} {n c : Nat} {xs : List Value} (h : w.ownsRow B e 1 (.slice a n c) n xs) :
    (a = none ∧ n = 0 ∧ c = 0 ∧ xs = []) ∨ ∃ g, a = some ⟨g, 0, none⟩ ∧ B ≤ g ∧ g < w.heap.size ∧ n ≤ c ∧ c ≤ maxLen ∧ xs.length = n ∧ (∀ j, j < n → w.cell? ⟨g, j, none⟩ = xs[j]?) ∧ ∀ j, w.frozen? ⟨g, j, none⟩ = false := by
  have h0 := h
  obtain ⟨hx, h | ⟨g, cap, cur, hv, hg, hh, hc, hm, r⟩⟩ := h
  · obtain ⟨h1, h2⟩ := h
    simp only [Value.slice.injEq] at h1
    exact Or.inl ⟨h1.1, h2, h1.2.2, List.eq_nil_of_length_eq_zero (by omega)⟩
  · simp only [Value.slice.injEq] at hv
    obtain ⟨rfl, _, rfl⟩ := hv
    have hlt : g < w.heap.size := by
      rcases Nat.lt_or_ge g w.heap.size with k | k
      · exact k
      · simp [Array.getElem?_eq_none k] at hh
    exact Or.inr ⟨g, rfl, hg, hlt, hc, hm, by omega, fun j hj => h0.cellAt j (by omega), fun j => h0.frozenAt j⟩
theorem prefix_own {w : World} {B : Nat} {e : TypeId} {g n c k : Nat} {xs : List Value} (h : w.ownsRow B e 1 (.slice (some ⟨g, 0, none⟩) n c) n xs) (hk : k ≤ n) : w.ownsRow B e 1 (.slice (some ⟨g, 0, none⟩) k c) k (xs.take k) := by
  obtain ⟨hx, h | ⟨g', cap, cur, hv, hg, hh, hc, hm, hs, ht⟩⟩ := h
  · simp at h
  · simp only [Value.slice.injEq, Option.some.injEq, Addr.mk.injEq, and_true, true_and] at hv
    obtain ⟨rfl, rfl⟩ := hv
    refine ⟨by rw [List.length_take]; omega, Or.inr ⟨g, c, cur, rfl, hg, hh, by omega, hm, hs, ?_⟩⟩
    rw [← ht, List.take_take]
    congr 1
    omega
theorem same_cap {w : World} {B B' : Nat} {e e' : TypeId} {g n n' c c' : Nat} {xs xs' : List Value} (h : w.ownsRow B e 1 (.slice (some ⟨g, 0, none⟩) n c) n xs) (h' : w.ownsRow B' e' 1 (.slice (some ⟨g, 0, none⟩) n' c') n' xs') : c = c' := by
  obtain ⟨_, h | ⟨g1, c1, cur, hv, _, hh, _, _, hs, _⟩⟩ := h
  · simp at h
  obtain ⟨_, h' | ⟨g2, c2, cur', hv', _, hh', _, _, hs', _⟩⟩ := h'
  · simp at h'
  simp only [Value.slice.injEq, Option.some.injEq, Addr.mk.injEq, and_true, true_and] at hv hv'
  obtain ⟨rfl, rfl⟩ := hv
  obtain ⟨rfl, rfl⟩ := hv'
  rw [hh] at hh'
  injection hh' with hh'
  injection hh' with hcur
  subst hcur
  omega
theorem other_type {w : World} {b b' : Nat} {e e' : TypeId} {v v' : Value} {n n' : Nat} {xs xs' : List Value} (h : w.ownsRow b e 1 v n xs) (h' : w.ownsRow b' e' 1 v' n' xs') (hne : e ≠ e') : v.ownBlock = none ∨ v.ownBlock ≠ v'.ownBlock := by
  rcases h.2 with ⟨rfl, _⟩ | ⟨g, cap, cur, rfl, _, hh, _⟩
  · exact Or.inl rfl
  · right
    rcases h'.2 with ⟨rfl, _⟩ | ⟨g', cap', cur', rfl, _, hh', _⟩
    · simp [Value.ownBlock]
    · intro hq
      have : g = g' := by simpa [Value.ownBlock] using hq
      subst this
      rw [hh] at hh'
      injection hh' with hh'
      injection hh' with _ ht
      exact hne ht
theorem below_lt {w : World} {B : Nat} {e : TypeId} {v : Value} {n : Nat} {xs : List Value} (h : w.ownsRow B e 1 v n xs) : v.ownBlock = none ∨ ∃ b, v.ownBlock = some b ∧ B ≤ b ∧ b < w.heap.size := by
  cases hv : v.ownBlock with
  | none => exact Or.inl rfl
  | some b => exact Or.inr ⟨b, rfl, h.lt b hv⟩
theorem set_take {l : List Value} {k : Nat} {u : Value} (h : k < l.length) : (l.set k u).take (k + 1) = l.take k ++ [u] := by
  rw [List.take_succ_eq_append_getElem (by simpa using h), List.take_set_of_le (Nat.le_refl _)]
  simp

/-! ### the lists, and where they stand -/
def OwnAll (B : Nat) (w : World) (L : List Rw) (C : Nat → List Value) : Prop := ∀ (k : Nat) (x : Rw), L[k]? = some x → w.ownsRow B E 1 x.val x.2.2 (C k)
structure Sit (w : World) (Q qo : Nat) (L : List Rw) : Prop where
  lt : Q < w.heap.size
  cell : ∀ (j : Nat) (x : Rw), L[j]? = some x → w.cell? ⟨Q, qo + j, none⟩ = some x.val
structure Parts (L : List Rw) (Q : Nat) : Prop where
  two : ∀ (k k' : Nat) (x x' : Rw), L[k]? = some x → L[k']? = some x' → k ≠ k' → x.val.ownBlock = none ∨ x.val.ownBlock ≠ x'.val.ownBlock
  q : ∀ (k : Nat) (x : Rw), L[k]? = some x → x.val.ownBlock ≠ some Q
theorem Sit.kept {w w' : World} {Q qo : Nat} {L : List Rw} (h : Sit w Q qo L) {row : Option Nat} (hg : w.grownBy w' row) (hne : row ≠ some Q) : Sit w' Q qo L :=
  ⟨Nat.lt_of_lt_of_le h.lt hg.size, fun j x hx => (World.cell?_of_block (hg.block Q h.lt (Ne.symm hne))).trans (h.cell j x hx)⟩
theorem OwnAll.kept {B : Nat} {w w' : World} {L : List Rw} {C : Nat → List Value} (h : OwnAll B w L C) {row : Option Nat} (hg : w.grownBy w' row) (hne : ∀ (k : Nat) (x : Rw), L[k]? = some x → x.val.ownBlock = none ∨ x.val.ownBlock ≠ row) : OwnAll B w' L C :=
  fun k x hx => (h k x hx).kept hg (hne k x hx)
theorem val_some {x : Rw} {g : Nat} (h : x.1 = some ⟨g, 0, none⟩) : x.val.ownBlock = some g := by unfold Rw.val; rw [h]; rfl
/-- a mark is laid -/
theorem OwnAll.store {B : Nat} {w : World} {L : List Rw} {C : Nat → List Value} {Q : Nat} (hP : Parts L Q) (h : OwnAll B w L C) {i : Nat} {x : Rw} (hx : L[i]? = some x) {g : Nat} (hg : x.1 = some ⟨g, 0, none⟩) (j : Nat) (u : Value) :
    OwnAll B (w.setCell ⟨g, j, none⟩ u) L (fun k => if k = i then (C i).set j u else C k) ∧ w.grownBy (w.setCell ⟨g, j, none⟩ u) (some g) := by
  have ho := h i x hx
  unfold Rw.val at ho
  rw [hg] at ho
  obtain ⟨s1, s2⟩ := ho.stored j u
  refine ⟨fun k y hy => ?_, s2⟩
  by_cases hk : k = i
  · subst hk
    rw [hx] at hy
    obtain rfl := Option.some.inj hy
    simp only [if_true]
    unfold Rw.val
    rw [hg]
    exact s1
  · simp only [if_neg hk]
    refine (h k y hy).kept s2 ?_
    have := hP.two k i y x hy hx hk
    rwa [val_some hg] at this

theorem other_rows {B : Nat} {w : World} {L : List Rw} {C : Nat → List Value} (h : OwnAll B w L C) {b : Nat} {e : TypeId} {v : Value} {n : Nat} {xs : List Value} (hv : w.ownsRow b e 1 v n xs) (hne : E ≠ e) : ∀ (k : Nat) (x : Rw), L[k]? = some x → x.val.ownBlock = none ∨ x.val.ownBlock ≠ v.ownBlock :=
  fun k x hx => other_type (h k x hx) hv hne

/-- Nothing has changed but what is new, and the lists' own blocks. -/
structure Fr (L : List Rw) (w w' : World) : Prop where
  os : w'.os = w.os
  tape : w'.tape = w.tape
  output : w'.output = w.output
  size : w.heap.size ≤ w'.heap.size
  block : ∀ b, b < w.heap.size → (∀ (k : Nat) (x : Rw), L[k]? = some x → x.val.ownBlock ≠ some b) → w'.heap[b]? = w.heap[b]?
theorem Fr.refl (L : List Rw) (w : World) : Fr L w w := ⟨rfl, rfl, rfl, Nat.le_refl _, fun _ _ _ => rfl⟩
theorem Fr.step {L : List Rw} {w a b : World} (h : Fr L w a) {row : Option Nat} (hg : a.grownBy b row) (hr : ∀ k, row = some k → (∃ (i : Nat) (x : Rw), L[i]? = some x ∧ x.val.ownBlock = some k) ∨ w.heap.size ≤ k) : Fr L w b :=
  ⟨hg.os.trans h.os, hg.tape.trans h.tape, hg.output.trans h.output, Nat.le_trans h.size hg.size, fun k hk hno => (hg.block k (Nat.lt_of_lt_of_le hk h.size) (fun e => by
    rcases hr k e.symm with ⟨i, x, hx, hb⟩ | h1
    · exact hno i x hx hb
    · omega)).trans (h.block k hk hno)⟩
theorem Fr.below {L : List Rw} {w w' : World} (h : Fr L w w') {B : Nat} (hB : B ≤ w.heap.size) (hL : ∀ (k : Nat) (x : Rw), L[k]? = some x → x.val.ownBlock = none ∨ ∃ b, x.val.ownBlock = some b ∧ B ≤ b) : Below B w w' :=
  ⟨h.os, h.tape, h.output, h.size, fun k hk => h.block k (by omega) (fun i x hx e => by
    rcases hL i x hx with h1 | ⟨b, h1, h2⟩
    · rw [h1] at e; cases e
    · rw [h1] at e
      have := Option.some.inj e
      omega)⟩

def Rel1 (B : Nat) (w : World) (L : List Rw) (Q qo : Nat) (v3 : Value) (wr : World) : Prop :=
  ∃ (i : Nat) (C : Nat → List Value), i ≤ L.length ∧ v3 = .int .i64 (i : Int) ∧ OwnAll B wr L C ∧ (∀ (k : Nat) (x : Rw), k < i → L[k]? = some x → C k = List.replicate x.2.2 (m1 k)) ∧ Sit wr Q qo L ∧ Fr L w wr
def Rel2 (B : Nat) (w : World) (L : List Rw) (Q qo i n : Nat) (v4 : Value) (wr : World) : Prop :=
  ∃ (j : Nat) (C : Nat → List Value), j ≤ n ∧ v4 = .int .i64 (j : Int) ∧ OwnAll B wr L C ∧ (∀ (k : Nat) (x : Rw), k < i → L[k]? = some x → C k = List.replicate x.2.2 (m1 k)) ∧ (C i).take j = List.replicate j (m1 i) ∧ Sit wr Q qo L ∧ Fr L w wr
/-- The lists, marked. -/
def Marked (B : Nat) (w : World) (L : List Rw) : Prop := ∀ (k : Nat) (x : Rw), L[k]? = some x → w.ownsRow B E 1 x.val x.2.2 (List.replicate x.2.2 (m1 k))
/-- A list grown by forty. -/
def Full (B : Nat) (w : World) (L : List Rw) (k : Nat) (x : Rw) (v : Value) : Prop :=
  ∃ y c, v = .slice y (x.2.2 + 40) c ∧ w.ownsRow B E 1 (.slice y (x.2.2 + 40) c) (x.2.2 + 40) (List.replicate x.2.2 (m1 k) ++ List.replicate 40 (m2 k)) ∧
    ∀ (k' : Nat) (x' : Rw), k' ≠ k → L[k']? = some x' → (Value.slice y (x.2.2 + 40) c).ownBlock = none ∨ (Value.slice y (x.2.2 + 40) c).ownBlock ≠ x'.val.ownBlock
structure Got (B : Nat) (w wr : World) (L : List Rw) (Q qo G i : Nat) (gv : List Value) : Prop where
  marked : Marked B wr L
  row : wr.ownsRow B 22 1 (.slice (some ⟨G, 0, none⟩) L.length L.length) L.length gv
  full : ∀ (k : Nat) (x : Rw), k < i → L[k]? = some x → ∃ v, gv[k]? = some v ∧ Full B wr L k x v
  sit : Sit wr Q qo L
  below : Fr L w wr
def Rel3 (B : Nat) (w : World) (L : List Rw) (Q qo G : Nat) (v6 : Value) (wr : World) : Prop :=
  ∃ (i : Nat) (gv : List Value), i ≤ L.length ∧ v6 = .int .i64 (i : Int) ∧ Got B w wr L Q qo G i gv
/-- The list that is being grown: in its own old block, or in one made since H. -/
def Rel4 (B : Nat) (w : World) (L : List Rw) (Q qo G i H : Nat) (x : Rw) (gv : List Value) (v7 v8 : Value) (wr : World) : Prop :=
  ∃ (j : Nat) (y : Option Addr) (c : Nat), j ≤ 40 ∧ v8 = .int .i64 (j : Int) ∧ v7 = .slice y (x.2.2 + j) c ∧ wr.ownsRow B E 1 (.slice y (x.2.2 + j) c) (x.2.2 + j) (List.replicate x.2.2 (m1 i) ++ List.replicate j (m2 i)) ∧
    ((Value.slice y (x.2.2 + j) c).ownBlock = x.val.ownBlock ∨ ∃ b, (Value.slice y (x.2.2 + j) c).ownBlock = some b ∧ H ≤ b) ∧ H ≤ wr.heap.size ∧ Got B w wr L Q qo G i gv

/-- What was there before H, and is of no list i, stays. -/
structure Old (L : List Rw) (Q G i H : Nat) (x : Rw) (gv : List Value) : Prop where
  lists : ∀ (k : Nat) (z : Rw), L[k]? = some z → z.val.ownBlock = none ∨ ∃ b, z.val.ownBlock = some b ∧ b < H
  apart : ∀ (k : Nat) (z : Rw), k ≠ i → L[k]? = some z → z.val.ownBlock = none ∨ z.val.ownBlock ≠ x.val.ownBlock
  grown : ∀ (k : Nat) (v : Value), k < i → gv[k]? = some v → (v.ownBlock = none ∨ ∃ b, v.ownBlock = some b ∧ b < H) ∧ (v.ownBlock = none ∨ v.ownBlock ≠ x.val.ownBlock)
  g : G < H
  q : Q < H
  xq : x.val.ownBlock ≠ some Q
  xg : x.val.ownBlock ≠ some G
theorem Full.kept {B : Nat} {w w' : World} {L : List Rw} {k : Nat} {x : Rw} {v : Value} (h : Full B w L k x v) {row : Option Nat} (hg : w.grownBy w' row) (hne : v.ownBlock = none ∨ v.ownBlock ≠ row) : Full B w' L k x v := by
  obtain ⟨y, c, rfl, ho, ha⟩ := h
  exact ⟨y, c, rfl, ho.kept hg hne, ha⟩
/-- an alien block is written, or none -/
theorem Got.kept {B : Nat} {w wr w' : World} {L : List Rw} {Q qo G i : Nat} {gv : List Value} (h : Got B w wr L Q qo G i gv) {row : Option Nat} (hg : wr.grownBy w' row)
    (h1 : ∀ (k : Nat) (z : Rw), L[k]? = some z → z.val.ownBlock = none ∨ z.val.ownBlock ≠ row) (h2 : ∀ (k : Nat) (v : Value), k < i → gv[k]? = some v → v.ownBlock = none ∨ v.ownBlock ≠ row) (h3 : row ≠ some G) (h4 : row ≠ some Q) (h5 : ∀ k, row = some k → (∃ (i : Nat) (x : Rw), L[i]? = some x ∧ x.val.ownBlock = some k) ∨ w.heap.size ≤ k) : Got B w w' L Q qo G i gv :=
  ⟨fun k z hz => (h.marked k z hz).kept hg (h1 k z hz), h.row.kept hg (Or.inr (by simpa [Value.ownBlock] using fun e => h3 e.symm)), fun k z hk hz => by
    obtain ⟨v, hv, hf⟩ := h.full k z hk hz
    exact ⟨v, hv, hf.kept hg (h2 k v hk hv)⟩, h.sit.kept hg h4, h.below.step hg h5⟩
/-- nothing old is written -/
theorem Got.fresh {B : Nat} {w wr w' : World} {L : List Rw} {Q qo G i : Nat} {gv : List Value} (h : Got B w wr L Q qo G i gv) (hg : wr.grownBy w' none) : Got B w w' L Q qo G i gv :=
  h.kept hg (fun k z hz => by
    rcases below_lt (h.marked k z hz) with h1 | ⟨b, h1, _⟩
    · exact Or.inl h1
    · exact Or.inr (by rw [h1]; simp)) (fun k v hk hv => by
    cases hb : v.ownBlock with
    | none => exact Or.inl rfl
    | some b => exact Or.inr (by simp)) (by simp) (by simp) (fun k hk => by cases hk)
/-- the list that grows is written within its room -/
theorem Got.room {B : Nat} {w wr w' : World} {L : List Rw} {Q qo G i H : Nat} {x : Rw} {gv : List Value} (hO : Old L Q G i H x gv) (hx : L[i]? = some x) (h : Got B w wr L Q qo G i gv) (hH : w.heap.size ≤ H) {y n c : Nat} (hcase : some y = x.val.ownBlock ∨ H ≤ y)
    (hg : wr.grownBy w' (some y)) {ys : List Value} (hn : x.2.2 ≤ n) (hold : wr.ownsRow B E 1 (.slice (some ⟨y, 0, none⟩) n c) n ys) {ys' : List Value} (hnew : w'.ownsRow B E 1 (.slice (some ⟨y, 0, none⟩) (n + 1) c) (n + 1) (List.replicate x.2.2 (m1 i) ++ ys')) : Got B w w' L Q qo G i gv := by
  have hL : ∀ (k : Nat) (z : Rw), k ≠ i → L[k]? = some z → z.val.ownBlock = none ∨ z.val.ownBlock ≠ some y := fun k z hk hz => by
    rcases hcase with e | e
    · rw [e]; exact hO.apart k z hk hz
    · rcases hO.lists k z hz with h1 | ⟨b, h1, h2⟩
      · exact Or.inl h1
      · exact Or.inr (by rw [h1]; simp; omega)
  have hm : Marked B w' L := fun k z hz => by
    by_cases hk : k = i
    · subst hk
      rw [hx] at hz
      obtain rfl := Option.some.inj hz
      by_cases he : x.val.ownBlock = some y
      · have hmi := h.marked k x hx
        unfold Rw.val at hmi he ⊢
        rcases shape hmi with ⟨h1, _⟩ | ⟨g, h1, _⟩
        · rw [h1] at he; simp [Value.ownBlock] at he
        · rw [h1] at he hmi ⊢
          obtain rfl : g = y := by simpa [Value.ownBlock] using he
          obtain rfl := same_cap hmi hold
          have hp := prefix_own hnew (k := x.2.2) (by omega)
          rwa [List.take_left' (by simp)] at hp
      · exact (h.marked k x hx).kept hg (Or.inr he)
    · exact (h.marked k z hz).kept hg (hL k z hk hz)
  refine ⟨hm, h.row.kept hg (Or.inr ?_), fun k z hk hz => ?_, h.sit.kept hg ?_, h.below.step hg (fun k hk => by
    obtain rfl : y = k := Option.some.inj hk
    rcases hcase with e | e
    · exact Or.inl ⟨i, x, hx, e.symm⟩
    · exact Or.inr (Nat.le_trans hH e))⟩
  · have : (Value.slice (some ⟨G, 0, none⟩) L.length L.length).ownBlock = some G := rfl
    rw [this]
    rcases hcase with e | e
    · rw [e]; exact fun h => hO.xg h.symm
    · have := hO.g; simp; omega
  · obtain ⟨v, hv, hf⟩ := h.full k z hk hz
    obtain ⟨h1, h2⟩ := hO.grown k v hk hv
    refine ⟨v, hv, hf.kept hg ?_⟩
    rcases hcase with e | e
    · rw [e]; exact h2
    · rcases h1 with h1 | ⟨b, h1, h3⟩
      · exact Or.inl h1
      · exact Or.inr (by rw [h1]; simp; omega)
  · rcases hcase with e | e
    · rw [e]; exact hO.xq
    · have := hO.q; simp; omega
theorem cell_new (w : World) (v : Value) (t : TypeId) : ∀ j u, [v][j]? = some u → (w.alloc (.cells #[v] t)).cell? ((⟨w.heap.size, 0, none⟩ : Addr).add j) = some u := by
  intro j u hj
  match j, hj with
  | 0, hj => simp at hj; subst hj; simp [Addr.add]
theorem make_rows (n : Nat) (hn : n ≤ 1000000) (w : World) :
    (Instr.makeSlice 76 (.int .i64 (n : Int)) (.int .i64 (n : Int))).run Tryd.prog w = .ok (.slice (some ⟨w.heap.size, 0, none⟩) n n) (w.alloc (.cells (madeCells #[.slice none 0 0] n) 22)) := by
  obtain ⟨i0, hi, hz0, hz1, hz2⟩ := info_parts infoS
  have h := run_make (P := Tryd.prog) w 76 22 i0 (.slice none 0 0) Tryd.underlying76 hi hz0 .i64 .i64 n n (by omega) (by omega) (by rw [hz2]; omega) (by omega)
  rw [hz1] at h
  simpa [Value.cells] using h
theorem rows_made (B : Nat) (w : World) (n : Nat) (hB : B ≤ w.heap.size) (hn : n ≤ 1000000) : (w.alloc (.cells (madeCells #[.slice none 0 0] n) 22)).ownsRow B 22 1 (.slice (some ⟨w.heap.size, 0, none⟩) n n) n (List.replicate n (.slice none 0 0)) := by
  refine ⟨by simp, Or.inr ⟨w.heap.size, n, madeCells #[.slice none 0 0] n, rfl, hB, ?_, Nat.le_refl _, by unfold maxLen; omega, by rw [size_madeCells, Nat.mul_one], ?_⟩⟩
  · show (w.heap.push _)[w.heap.size]? = _
    simp
  · rw [Nat.mul_one, toList_madeCells_one, List.take_of_length_le (by simp)]

def TruePost (L : List Rw) (w : World) (e : Ending) (w' : World) : Prop := e = .returned (.bool true) ∧ Fr L w w'
end Go.Proofs.YtgdjnohhofbcnaaDoor.apartI
end
section
namespace Go.Proofs.YtgdjnohhofbcnaaDoor.apartI
open Go.RowKit

set_option maxRecDepth 100000 in
set_option maxHeartbeats 8000000 in
theorem apart_any (B : Nat) (L : List Rw) (Q qo cap : Nat) (w : World) (hB : B ≤ w.heap.size) (hP : Parts L Q) (C0 : Nat → List Value) (hO : OwnAll B w L C0) (hS : Sit w Q qo L) (hl : L.length ≤ 1000) (hlen : ∀ x ∈ L, x.2.2 ≤ 100000) (hc : L.length ≤ cap) (hcm : cap ≤ 9223372036854775807) :
    Calls Tryd.prog 30 #[.slice (some ⟨Q, qo, none⟩) L.length cap] w (TruePost L w) := by
  obtain ⟨i0, hi, hz0, hz1, hz2⟩ := info_parts infoE
  have hmk := make_rows L.length (by omega)
  have HP := Lib.hid (And.intro hP (And.intro hO (And.intro hS hlen)))
  have hQ := hS.lt
  clear hP hO hS hlen
  go_enter Tryd.func30, Tryd.ntmps30
  go_wp2_with fail
  go_loopw [3] (fun v3 wr => Rel1 B w L Q qo v3 wr) (fun v _ => L.length - (intOf v).toNat)
  case atStart => exact ⟨0, C0, Nat.zero_le _, rfl, HP.out.2.1, fun k x hk => absurd hk (Nat.not_lt_zero k), HP.out.2.2.1, Fr.refl _ _⟩
  case round =>
    obtain ⟨i, C, hin, rfl, hO, hD, hS, hb⟩ := hrel
    have HR := Lib.hid (And.intro hO (And.intro hD (And.intro hS hb)))
    obtain ⟨wo, rfl⟩ : ∃ wo : World, wo = wr := ⟨_, rfl⟩
    by_cases hlt : i < L.length
    · obtain ⟨x, hx⟩ : ∃ x, L[i]? = some x := ⟨_, List.getElem?_eq_getElem hlt⟩
      have hxm : x ∈ L := List.mem_of_getElem? hx
      have hxl := HP.out.2.2.2 x hxm
      obtain ⟨xa, xc, xn⟩ := x
      replace hxl : xn ≤ 100000 := hxl
      have HX := Lib.hid hx
      clear hO hD hS hb hx hxm hmk
      go_wp2_with fail
      go_loopw [4] (fun v4 wr => Rel2 B w L Q qo i xn v4 wr) (fun v _ => xn - (intOf v).toNat)
      case atStart => exact ⟨0, C, Nat.zero_le _, rfl, HR.out.1, HR.out.2.1, rfl, HR.out.2.2.1, HR.out.2.2.2⟩
      case round =>
        obtain ⟨j, C, hj, rfl, hO, hD, hT, hS, hb⟩ := hrel
        have hcell : wr.cell? ⟨Q, qo + i, none⟩ = some (.slice xa xn xc) := hS.cell i _ HX.out
        have hown : wr.ownsRow B E 1 (.slice xa xn xc) xn (C i) := hO i _ HX.out
        have HI := Lib.hid (And.intro hO (And.intro hD (And.intro hT (And.intro hS hb))))
        by_cases hjl : j < xn
        · rcases shape hown with ⟨_, h0, _⟩ | ⟨g, rfl, hgB, hgl, hnc, hcmx, hCl, hcells, hfz⟩
          · omega
          obtain ⟨v0, hv0⟩ : ∃ v0, (C i)[j]? = some v0 := ⟨_, List.getElem?_eq_getElem (by omega)⟩
          have hcj : wr.cell? ⟨g, j, none⟩ = some v0 := (hcells j hjl).trans hv0
          have hfj := hfz j
          have hmod : i ≤ 1000 := by omega
          obtain ⟨s1, s2⟩ := hO.store HP.out.1 HX.out rfl j (m1 i)
          have hgQ : (some g : Option Nat) ≠ some Q := HP.out.1.q i _ HX.out
          have hT2 : ((C i).set j (m1 i)).take (j + 1) = List.replicate (j + 1) (m1 i) := by
            rw [set_take (by omega), hT, ← List.replicate_succ']
          have HN := Lib.hid (And.intro s1 (And.intro hT2 (And.intro (hS.kept s2 hgQ) (hb.step s2 (fun k hk => Or.inl ⟨i, _, HX.out, hk⟩)))))
          clear hO hD hT hS hb hown hcells hfz hv0 s1 s2 hgQ hT2 hCl
          go_wp2_with fail
          go_roundw
          case rel =>
            refine ⟨j + 1, _, by omega, by go_num, HN.out.1, fun k y hk hy => ?_, ?_, HN.out.2.2.1, HN.out.2.2.2⟩
            · simp only [if_neg (Nat.ne_of_lt hk)]
              exact HI.out.2.1 k y hk hy
            · simp only [if_true]
              exact HN.out.2.1
          case measure => simp [intOf]; omega
        · obtain rfl : j = xn := by omega
          have hCi : C i = List.replicate j (m1 i) := by
            have h1 : (C i).length = j := by rw [hown.1, Nat.mul_one]
            rw [← hT, List.take_of_length_le (by omega)]
          have HC := Lib.hid hCi
          clear hO hD hT hS hb hown hCi
          go_wp2_with fail
          go_roundw
          case rel =>
            refine ⟨i + 1, C, by omega, by go_num, HI.out.1, fun k y hk hy => ?_, HI.out.2.2.2.1, HI.out.2.2.2.2⟩
            rcases Nat.lt_or_ge k i with h | h
            · exact HI.out.2.1 k y h hy
            · obtain rfl : k = i := by omega
              rw [HX.out] at hy
              obtain rfl := Option.some.inj hy
              exact HC.out
          case measure => simp [intOf]; omega
    · obtain rfl : i = L.length := by omega
      have hM : Marked B wo L := fun k x hx => by
        have h := hO k x hx
        have hk : k < L.length := (List.getElem?_eq_some_iff.1 hx).1
        rwa [hD k x hk hx] at h
      have hwB : B ≤ wo.heap.size := Nat.le_trans hB hb.size
      have hrow := rows_made B wo L.length hwB (by omega)
      have hMa : Marked B (wo.alloc (.cells (madeCells #[.slice none 0 0] L.length) 22)) L := fun k x hx => (hM k x hx).alloc _
      have hG : Got B w (wo.alloc (.cells (madeCells #[.slice none 0 0] L.length) 22)) L Q qo wo.heap.size 0 (List.replicate L.length (.slice none 0 0)) :=
        ⟨hMa, hrow, fun k x hk => absurd hk (Nat.not_lt_zero k), hS.kept (World.grownBy_alloc wo _ none) (by simp), hb.step (World.grownBy_alloc wo _ none) (fun k hk => by cases hk)⟩
      obtain ⟨G, hGs⟩ : ∃ G, wo.heap.size = G := ⟨_, rfl⟩
      rw [hGs] at hG
      have hQG : Q < G := by rw [← hGs]; exact hS.lt
      have hBG : B ≤ G := by omega
      have hwG : w.heap.size ≤ G := by have := hb.size; omega
      have HGs := Lib.hid hGs
      have HLG := Lib.hid (show ∀ (k : Nat) (z : Rw), L[k]? = some z → z.val.ownBlock = none ∨ ∃ b, z.val.ownBlock = some b ∧ b < G from fun k z hz => by
        rcases below_lt (hM k z hz) with h | ⟨b, h1, _, h2⟩
        · exact Or.inl h
        · exact Or.inr ⟨b, h1, by omega⟩)
      have HG := Lib.hid hG
      clear hO hD hS hb hM hrow hMa hG hlt HR
      go_wp2_with fail
      clear hmk hGs
      go_loopw [6] (fun v6 wr => Rel3 B w L Q qo G v6 wr) (fun v _ => L.length - (intOf v).toNat)
      case atStart => exact ⟨0, _, Nat.zero_le _, rfl, HG.out⟩
      case round =>
        obtain ⟨i, gv, hin, rfl, hG⟩ := hrel
        obtain ⟨wp, rfl⟩ : ∃ wp : World, wp = wr := ⟨_, rfl⟩
        have hwB : B ≤ wp.heap.size := Nat.le_trans hB hG.below.size
        have hgl : gv.length = L.length := by have := hG.row.1; omega
        have HGG := Lib.hid hG
        have hGw : G < wp.heap.size := by rcases shape hG.row with ⟨h, _⟩ | ⟨g, h, _, h2, _⟩
                                          · cases h
                                          · obtain rfl : G = g := by simpa using h
                                            exact h2
        by_cases hlt : i < L.length
        · obtain ⟨x, hx⟩ : ∃ x, L[i]? = some x := ⟨_, List.getElem?_eq_getElem hlt⟩
          have hxl := HP.out.2.2.2 x (List.mem_of_getElem? hx)
          have hcell := hG.sit.cell i x hx
          have hmx := hG.marked i x hx
          have hOld : Old L Q G i wp.heap.size x gv := ⟨fun k z hz => by
              rcases HLG.out k z hz with h | ⟨b, h1, h2⟩
              · exact Or.inl h
              · exact Or.inr ⟨b, h1, by omega⟩, fun k z hk hz => HP.out.1.two k i z x hz hx hk, fun k v hk hv => by
              obtain ⟨z, hz⟩ : ∃ z, L[k]? = some z := ⟨_, List.getElem?_eq_getElem (by omega)⟩
              obtain ⟨v', hv', y, c, rfl, ho, ha⟩ := hG.full k z hk hz
              rw [hv] at hv'
              obtain rfl := Option.some.inj hv'
              refine ⟨?_, ha i x (by omega) hx⟩
              rcases below_lt ho with h | ⟨b, h1, _, h2⟩
              · exact Or.inl h
              · exact Or.inr ⟨b, h1, h2⟩, hGw, by omega, HP.out.1.q i x hx, by
              rcases HLG.out i x hx with h | ⟨b, h1, h2⟩
              · rw [h]; simp
              · rw [h1]; simp; omega⟩
          obtain ⟨xa, xc, xn⟩ := x
          replace hxl : xn ≤ 100000 := hxl
          replace hcell : wp.cell? ⟨Q, qo + i, none⟩ = some (.slice xa xn xc) := hcell
          replace hmx : wp.ownsRow B E 1 (.slice xa xn xc) xn (List.replicate xn (m1 i)) := hmx
          have HX := Lib.hid (And.intro hx (And.intro hOld hmx))
          obtain ⟨H, hH⟩ : ∃ H, wp.heap.size = H := ⟨_, rfl⟩
          have HH := Lib.hid hH
          have hHG : G < H := by omega
          have hHW : w.heap.size ≤ H := by have := HGG.out.below.size; omega
          clear hx hOld hmx hG hGw hH
          go_wp2_with fail
          go_loopw [7, 8] (fun v7 v8 wr => Rel4 B w L Q qo G i H (xa, xc, xn) gv v7 v8 wr) (fun _ v _ => 40 - (intOf v).toNat)
          case atStart =>
            refine ⟨0, xa, xc, by omega, rfl, rfl, ?_, Or.inl rfl, by rw [HH.out]; exact Nat.le_refl _, HGG.out⟩
            rw [List.replicate_zero, List.append_nil]
            exact HX.out.2.2
          case round =>
            obtain ⟨j, y, c, hj, rfl, rfl, ho, hcase, hHw, hG⟩ := hrel
            replace ho : wr.ownsRow B E 1 (.slice y (xn + j) c) (xn + j) (List.replicate xn (m1 i) ++ List.replicate j (m2 i)) := ho
            have hwB : B ≤ wr.heap.size := Nat.le_trans hB hG.below.size
            have HI := Lib.hid (And.intro ho (And.intro hcase hG))
            have hOl : Old L Q G i H (xa, xc, xn) gv := by have := HX.out.2.1; rwa [HH.out] at this
            have HO := Lib.hid hOl
            have hxlen : (List.replicate xn (m1 i) ++ List.replicate j (m2 i)).length = xn + j := by simp
            have HXL := Lib.hid hxlen
            clear hOl hxlen
            by_cases hj40 : j < 40
            · have hmod : i ≤ 1000 := by omega
              rcases shape ho with ⟨hy0, h00, hc0, hxs0⟩ | ⟨g, rfl, hgB, hgl2, hnc, hcmx, hCl, hcells, hfz⟩
              · -- a nil list: it grows
                subst hy0 hc0
                have hxn0 : xn = 0 := by omega
                have hj0 : j = 0 := by omega
                subst hxn0 hj0
                clear hcase hG hxs0 h00
                go_wp2_with (at_builtin; refine wpList_append_grows _ rfl _ _ 22 rfl E i0 (.int .i64 0) 1 8 Tryd.underlying22 hi hz0 hz1 hz2 rfl (by decide) none 0 0 [] rfl ?g0 ?g1 ?g2 ⟨wr.heap.size, 0, none⟩ 1 1 [m2 i] rfl rfl (cell_new _ _ _) ?g3 (by omega) ?g4 ?g5 ?_)
                case g3 => first | rfl | (intro u hu; simp at hu; subst hu; rfl)
                case g4 => unfold maxLen; omega
                intro v' w6 hown' hgrow
                have hG6 := (HI.out.2.2.fresh (World.grownBy_alloc wr _ none)).fresh hgrow
                have hfr : ∃ y' c', v' = .slice y' 1 c' ∧ ∃ b, v'.ownBlock = some b ∧ H ≤ b := by
                  obtain ⟨hx1, h | ⟨g', cap', cur, hv, hg', _⟩⟩ := hown'
                  · omega
                  · exact ⟨_, _, hv, g', by rw [hv]; rfl, by first | omega | (simp at hg'; omega)⟩
                obtain ⟨y', c', rfl, hfr⟩ := hfr
                have hown2 : w6.ownsRow B E 1 (.slice y' 1 c') 1 [m2 i] := by
                  obtain ⟨hx1, h | ⟨g', cap', cur, hv, hg', r⟩⟩ := hown'
                  · omega
                  · exact ⟨hx1, Or.inr ⟨g', cap', cur, hv, by first | omega | (simp at hg'; omega), r⟩⟩
                have HF := Lib.hid (And.intro hown2 (And.intro hfr (And.intro hG6 (show H ≤ w6.heap.size by have := hgrow.size; simp at this; omega))))
                clear hown' hgrow hG6 hfr hown2 ho
                go_wp2_with fail
                go_roundw
                case rel => exact ⟨1, y', c', by omega, by go_num, rfl, HF.out.1, Or.inr HF.out.2.1, HF.out.2.2.2, HF.out.2.2.1⟩
                case measure => simp [intOf]
              · have hyc : some g = (Rw.val (xa, xc, xn)).ownBlock ∨ H ≤ g := by
                  rcases hcase with h | ⟨b, h1, h2⟩
                  · exact Or.inl h
                  · right
                    have : g = b := by simpa [Value.ownBlock] using h1
                    omega
                have HY := Lib.hid hyc
                clear hcase hG hyc hfz
                by_cases hroom : xn + j + 1 ≤ c
                · clear hcells
                  go_wp2_with (at_builtin; refine wpList_append_own_spare _ rfl _ _ 22 rfl B E i0 1 Tryd.underlying22 hi hz1 g (xn + j) c _ rfl (ho.alloc _) ⟨wr.heap.size, 0, none⟩ 1 1 [m2 i] rfl rfl (cell_new _ _ _) ?e2 (by omega) ?_)
                  case e2 => first | rfl | (intro u hu; simp at hu; subst hu; rfl)
                  intro w6 hown' hgrow
                  try rw [List.append_assoc] at hown'
                  rw [← List.replicate_succ'] at hown'
                  have hGa := HI.out.2.2.fresh (World.grownBy_alloc wr (.cells #[m2 i] E) none)
                  have hG6 := hGa.room HO.out HX.out.1 hHW HY.out hgrow (by show xn ≤ xn + j; omega) (ho.alloc _) hown'
                  have HF := Lib.hid (And.intro hown' (And.intro hG6 (show H ≤ w6.heap.size by have := hgrow.size; simp at this; omega)))
                  clear hown' hgrow hG6 hGa ho
                  go_wp2_with fail
                  go_roundw
                  case rel =>
                    refine ⟨j + 1, some ⟨g, 0, none⟩, c, by omega, by go_num, rfl, HF.out.1, ?_, HF.out.2.2, HF.out.2.1⟩
                    rcases HY.out with h | h
                    · exact Or.inl h
                    · exact Or.inr ⟨g, rfl, h⟩
                  case measure => simp [intOf]; omega
                · clear hcells hCl
                  have HOLD := Lib.hid ((ho.alloc (.cells #[m2 i] E)).cells (g := g) rfl)
                  go_wp2_with (at_builtin; refine wpList_append_grows _ rfl _ _ 22 rfl E i0 (.int .i64 0) 1 8 Tryd.underlying22 hi hz0 hz1 hz2 rfl (by decide) (some ⟨g, 0, none⟩) (xn + j) c (List.replicate xn (m1 i) ++ List.replicate j (m2 i)) rfl ?h0 ?h1 (fun b hb => by cases hb; exact HOLD.out) ⟨wr.heap.size, 0, none⟩ 1 1 [m2 i] rfl rfl (cell_new _ _ _) ?h3 (by omega) ?h4 ?h5 ?_)
                  case h3 => first | rfl | (intro u hu; simp at hu; subst hu; rfl)
                  case h4 => unfold maxLen; omega
                  case h5 => omega
                  intro v' w6 hown' hgrow
                  try rw [List.append_assoc] at hown'
                  rw [← List.replicate_succ'] at hown'
                  have hG6 := (HI.out.2.2.fresh (World.grownBy_alloc wr _ none)).fresh hgrow
                  have hfr : ∃ y' c', v' = .slice y' (xn + j + 1) c' ∧ (∃ b, v'.ownBlock = some b ∧ H ≤ b) ∧ w6.ownsRow B E 1 (.slice y' (xn + j + 1) c') (xn + j + 1) (List.replicate xn (m1 i) ++ List.replicate (j + 1) (m2 i)) := by
                    obtain ⟨hx1, h | ⟨g', cap', cur, hv, hg', r⟩⟩ := hown'
                    · omega
                    · subst hv
                      exact ⟨_, _, rfl, ⟨g', rfl, by first | omega | (simp at hg'; omega)⟩, hx1, Or.inr ⟨g', cap', cur, rfl, by first | omega | (simp at hg'; omega), r⟩⟩
                  obtain ⟨y', c', rfl, hfr, hown2⟩ := hfr
                  have HF := Lib.hid (And.intro hown2 (And.intro hfr (And.intro hG6 (show H ≤ w6.heap.size by have := hgrow.size; simp at this; omega))))
                  clear hown' hgrow hG6 hfr hown2 ho
                  go_wp2_with fail
                  go_roundw
                  case rel => exact ⟨j + 1, y', c', by omega, by go_num, rfl, HF.out.1, Or.inr HF.out.2.1, HF.out.2.2.2, HF.out.2.2.1⟩
                  case measure => simp [intOf]; omega
            · obtain rfl : j = 40 := by omega
              have hgl2 : gv.length = L.length := hgl
              obtain ⟨v0, hv0⟩ : ∃ v0, gv[i]? = some v0 := ⟨_, List.getElem?_eq_getElem (by omega)⟩
              have hcg : wr.cell? ⟨G, i, none⟩ = some v0 := (hG.row.cellAt i (by omega)).trans hv0
              have hfg : wr.frozen? ⟨G, i, none⟩ = false := hG.row.frozenAt i
              obtain ⟨s1, s2⟩ := hG.row.stored i (.slice y (xn + 40) c)
              have hEG : ∀ {b n : Nat} {v : Value} {xs : List Value}, wr.ownsRow b E 1 v n xs → v.ownBlock = none ∨ v.ownBlock ≠ some G := fun {b n v xs} h => other_type h hG.row (by decide)
              have hBo : y = none ∨ ∃ b, (Value.slice y (xn + 40) c).ownBlock = some b := by
                cases y with
                | none => exact Or.inl rfl
                | some a => exact Or.inr ⟨_, rfl⟩
              have hnew : Got B w (wr.setCell ⟨G, i, none⟩ (.slice y (xn + 40) c)) L Q qo G (i + 1) (gv.set i (.slice y (xn + 40) c)) := by
                refine ⟨fun k z hz => (hG.marked k z hz).kept s2 (hEG (hG.marked k z hz)), s1, fun k z hk hz => ?_, hG.sit.kept s2 (by simp; omega), hG.below.step s2 (fun k hk => Or.inr (by have := Option.some.inj hk; omega))⟩
                by_cases hki : k = i
                · subst hki
                  have hz' : z = (xa, xc, xn) := Option.some.inj (hz.symm.trans HX.out.1)
                  subst hz'
                  refine ⟨_, List.getElem?_set_self (by omega), y, c, rfl, ho.kept s2 (hEG ho), fun k' x' hk' hx' => ?_⟩
                  rcases hcase with h | ⟨b, h1, h2⟩
                  · rw [h]
                    exact HP.out.1.two k k' _ x' HX.out.1 hx' (Ne.symm hk')
                  · right
                    rw [h1]
                    rcases HO.out.lists k' x' hx' with h3 | ⟨b', h3, h4⟩
                    · rw [h3]; simp
                    · rw [h3]; simp; omega
                · obtain ⟨v, hv, hf⟩ := hG.full k z (by omega) hz
                  refine ⟨v, by rw [List.getElem?_set_ne (Ne.symm hki)]; exact hv, hf.kept s2 ?_⟩
                  obtain ⟨y', c', rfl, ho', _⟩ := hf
                  exact hEG ho'
              have HN := Lib.hid hnew
              have hiL : i < L.length := (List.getElem?_eq_some_iff.1 HX.out.1).1
              clear hnew s1 s2 hEG hBo hv0 hG ho hcase
              go_wp2_with fail
              go_roundw
              case rel => exact ⟨i + 1, _, by omega, by go_num, HN.out⟩
              case measure => simp [intOf]; omega
        · obtain rfl : i = L.length := by omega
          have HF := Lib.hid hG
          clear hG hlt HGG
          go_wp2_with fail
          go_loop [9] (fun v => ∃ i : Nat, i ≤ L.length ∧ v = .int .i64 (i : Int)) (fun v => L.length - (intOf v).toNat)
          case atStart => exact ⟨0, Nat.zero_le _, rfl⟩
          case round =>
            obtain ⟨i, hi2, rfl⟩ := hrel
            by_cases hlt : i < L.length
            · obtain ⟨x, hx⟩ : ∃ x, L[i]? = some x := ⟨_, List.getElem?_eq_getElem hlt⟩
              have hxl := HP.out.2.2.2 x (List.mem_of_getElem? hx)
              have hcell := HF.out.sit.cell i x hx
              have hmx := HF.out.marked i x hx
              obtain ⟨v, hv, y, c, rfl, ho, _⟩ := HF.out.full i x hlt hx
              obtain ⟨xa, xc, xn⟩ := x
              replace hxl : xn ≤ 100000 := hxl
              replace hcell : wp.cell? ⟨Q, qo + i, none⟩ = some (.slice xa xn xc) := hcell
              replace hmx : wp.ownsRow B E 1 (.slice xa xn xc) xn (List.replicate xn (m1 i)) := hmx
              replace ho : wp.ownsRow B E 1 (.slice y (xn + 40) c) (xn + 40) (List.replicate xn (m1 i) ++ List.replicate 40 (m2 i)) := ho
              have hcg : wp.cell? ⟨G, i, none⟩ = some (.slice y (xn + 40) c) := (HF.out.row.cellAt i (by omega)).trans hv
              rcases shape ho with ⟨_, h0, _⟩ | ⟨g, rfl, hgB, hgl3, hnc, hcmx, hCl, hcells, _⟩
              · omega
              have HM := Lib.hid (And.intro hmx hcells)
              clear hx hv ho hmx hcells hCl
              go_wp2_with fail
              go_loop [11] (fun v => ∃ j : Nat, j ≤ xn + 40 ∧ v = .int .i64 (j : Int)) (fun v => xn + 40 - (intOf v).toNat)
              case atStart => exact ⟨0, Nat.zero_le _, rfl⟩
              case round =>
                obtain ⟨j, hj, rfl⟩ := hrel
                by_cases hjl : j < xn + 40
                · have hcj := HM.out.2 j hjl
                  have hmod : i ≤ 1000 := by omega
                  have hmod2 : i ≤ 1000 := by omega
                  by_cases hjn : j < xn
                  · rw [List.getElem?_append_left (by simpa using hjn), List.getElem?_replicate, if_pos hjn] at hcj
                    rcases shape HM.out.1 with ⟨_, h0, _⟩ | ⟨g2, rfl, _, _, hnc2, hcmx2, _, hcells2, _⟩
                    · omega
                    have hcj2 := hcells2 j hjn
                    rw [List.getElem?_replicate, if_pos hjn] at hcj2
                    unfold m1 at hcj hcj2
                    clear hcells2
                    go_wp2_with fail
                    go_round
                    case rel => exact ⟨j + 1, by omega, by go_num⟩
                    case measure => simp [intOf]; omega
                  · rw [List.getElem?_append_right (by simp; omega), List.getElem?_replicate, if_pos (by simp; omega)] at hcj
                    unfold m2 at hcj
                    go_wp2_with fail
                    go_round
                    case rel => exact ⟨j + 1, by omega, by go_num⟩
                    case measure => simp [intOf]; omega
                · obtain rfl : j = xn + 40 := by omega
                  go_wp2_with fail
                  go_round
                  case rel => exact ⟨i + 1, by omega, by go_num⟩
                  case measure => simp [intOf]; omega
            · obtain rfl : i = L.length := by omega
              go_wp2_with fail
              go_ret
              exact ⟨rfl, HF.out.below⟩
end Go.Proofs.YtgdjnohhofbcnaaDoor.apartI
end
section
namespace Go.Proofs.YtgdjnohhofbcnaaDoor
open Go.RowKit

/-- A list that was made: between two sizes of the heap lies its block. -/
abbrev MkI := Sl × Nat × Nat
/-- What a law knows on its way: the lent lists (below B), and the lists that were made (from B on), the newest first. -/
structure Kq (w wx : World) (B : Nat) (Ls : List (Nat × List Int)) (Lo : List MkI) : Prop where
  below : Below w.heap.size w wx
  lent : ∀ (i : Nat) (x : Nat × List Int), Ls[i]? = some x → LentI wx x.1 x.2 ∧ w.heap.size ≤ x.1 ∧ x.1 < B
  nd : ∀ (i j : Nat) (x y : Nat × List Int), Ls[i]? = some x → Ls[j]? = some y → i ≠ j → x.1 ≠ y.1
  base : B ≤ wx.heap.size
  low : w.heap.size ≤ B
  own : ∀ (i : Nat) (e : MkI), Lo[i]? = some e → IntO e.2.1 wx e.1.1 e.1.2.1 e.1.2.2 ∧ B ≤ e.2.1 ∧ (∀ k, (Sl.val e.1).ownBlock = some k → k < e.2.2) ∧ e.2.2 ≤ wx.heap.size
  apart : ∀ (i j : Nat) (e f : MkI), i < j → Lo[i]? = some e → Lo[j]? = some f → f.2.2 ≤ e.2.1
theorem Kq.next {w wx w' : World} {B : Nat} {Ls : List (Nat × List Int)} {Lo : List MkI} (K : Kq w wx B Ls Lo) (hb : Below wx.heap.size wx w') : Kq w w' B Ls Lo :=
  ⟨K.below.trans (hb.mono K.below.size), fun i x hx => ⟨(K.lent i x hx).1.below hb, (K.lent i x hx).2⟩, K.nd, Nat.le_trans K.base hb.size, K.low, fun i e he => by
    obtain ⟨h1, h2, h3, h4⟩ := K.own i e he
    exact ⟨h1.next hb, h2, h3, Nat.le_trans h4 hb.size⟩, K.apart⟩
theorem Kq.alloc {w wx : World} {B : Nat} {Ls : List (Nat × List Int)} {Lo : List MkI} (K : Kq w wx B Ls Lo) (o : Obj) : Kq w (wx.alloc o) B Ls Lo := K.next ((Below.refl _ _).alloc (Nat.le_refl _) _)
theorem IntO.lt {base : Nat} {w : World} {p : Option Addr} {c : Nat} {l : List Int} (h : IntO base w p c l) : ∀ k, (Sl.val (p, c, l)).ownBlock = some k → base ≤ k ∧ k < w.heap.size := fun k hk => World.ownsRow.lt h k hk
theorem Kq.push {w wx w' : World} {B : Nat} {Ls : List (Nat × List Int)} {Lo : List MkI} (K : Kq w wx B Ls Lo) (hb : Below wx.heap.size wx w') {p : Option Addr} {c : Nat} {l : List Int} (ho : IntO wx.heap.size w' p c l) : Kq w w' B Ls (((p, c, l), wx.heap.size, w'.heap.size) :: Lo) := by
  have K' := K.next hb
  refine ⟨K'.below, K'.lent, K'.nd, K'.base, K'.low, fun i e he => ?_, fun i j e f hij he hf => ?_⟩
  · cases i with
    | zero =>
      obtain rfl := Option.some.inj he
      exact ⟨ho, K.base, fun k hk => (ho.lt k hk).2, Nat.le_refl _⟩
    | succ i => exact K'.own i e he
  · cases j with
    | zero => omega
    | succ j =>
      cases i with
      | zero =>
        obtain rfl := Option.some.inj he
        exact (K.own j f hf).2.2.2
      | succ i => exact K'.apart i j e f (by omega) he hf
theorem Kq.get {w wx : World} {B : Nat} {Ls : List (Nat × List Int)} {Lo : List MkI} (K : Kq w wx B Ls Lo) (i : Nat) {p : Option Addr} {c lo hi : Nat} {l : List Int} (h : Lo[i]? = some ((p, c, l), lo, hi)) : IntV wx.heap.size wx p c l := (K.own i _ h).1.toV
theorem LentI.vn {w : World} {g m : Nat} {l : List Int} (h : LentI w g l) (hn : m = l.length + 2) (hl : l.length ≤ 17592186043904) : IntV w.heap.size w (some ⟨g, 0, none⟩) m l := by
  subst hn
  exact (LentI.own (base := 0) (Nat.zero_le _) hl h).toV
theorem Kq.old {w wx : World} {B : Nat} {Ls : List (Nat × List Int)} {Lo : List MkI} (K : Kq w wx B Ls Lo) {p : Option Addr} {c : Nat} {l : List Int} (h : IntV w.heap.size w p c l) : IntV wx.heap.size wx p c l := h.next K.below
/-- a lent list is written -/
theorem Kq.setx {w wx : World} {B : Nat} {Ls : List (Nat × List Int)} {Lo : List MkI} (K : Kq w wx B Ls Lo) (k g : Nat) (l : List Int) (hk : Ls[k]? = some (g, l)) (i : Nat) (v : Int) (hi : i < l.length) : Kq w (wx.setCell ⟨g, i, none⟩ (.int .i64 v)) B (Ls.set k (g, l.set i v)) Lo := by
  have hs : (wx.setCell ⟨g, i, none⟩ (.int .i64 v)).heap.size = wx.heap.size := by simp [World.setCell]
  have hg : wx.grownBy (wx.setCell ⟨g, i, none⟩ (.int .i64 v)) (some g) := ⟨rfl, rfl, rfl, by rw [hs]; exact Nat.le_refl _, fun k _ hne => Below.heap_setCell wx ⟨g, i, none⟩ _ k (fun e => hne (by rw [e]))⟩
  obtain ⟨hx, hx1, hx2⟩ := K.lent k _ hk
  have hset : ∀ (j : Nat) (x : Nat × List Int), (Ls.set k (g, l.set i v))[j]? = some x → (j = k ∧ x = (g, l.set i v)) ∨ (j ≠ k ∧ Ls[j]? = some x) := fun j x hj => by
    by_cases e : j = k
    · subst e
      rw [List.getElem?_set_self (List.getElem?_eq_some_iff.1 hk).1] at hj
      exact Or.inl ⟨rfl, (Option.some.inj hj).symm⟩
    · rw [List.getElem?_set_ne (Ne.symm e)] at hj
      exact Or.inr ⟨e, hj⟩
  refine ⟨K.below.setCell (p := ⟨g, i, none⟩) hx1 _, fun j x hj => ?_, fun j j' x y hj hj' hne => ?_, by rw [hs]; exact K.base, K.low, fun j e he => ?_, K.apart⟩
  · rcases hset j x hj with ⟨_, rfl⟩ | ⟨hne, hj⟩
    · refine ⟨?_, hx1, hx2⟩
      unfold LentI
      rw [heap_setCell_same _ g i _ _ _ hx]
      congr 2
      rw [← Array.toList_inj]
      simp only [Array.toList_setIfInBounds]
      rw [← cI_set, List.set_append_left _ _ hi]
    · obtain ⟨h1, h2, h3⟩ := K.lent j x hj
      have hxg : x.1 ≠ g := K.nd j k x _ hj hk hne
      exact ⟨h1.block (hg.block x.1 h1.lt (by simpa using hxg)), h2, h3⟩
  · rcases hset j x hj with ⟨a1, a2⟩ | ⟨a1, a2⟩
    · rcases hset j' y hj' with ⟨b1, b2⟩ | ⟨b1, b2⟩
      · exact absurd (a1.trans b1.symm) hne
      · rw [a2]
        exact K.nd k j' (g, l) y hk b2 (Ne.symm b1)
    · rcases hset j' y hj' with ⟨b1, b2⟩ | ⟨b1, b2⟩
      · rw [b2]
        exact K.nd j k x (g, l) a2 hk a1
      · exact K.nd j j' x y a2 b2 hne
  · obtain ⟨h1, h2, h3, h4⟩ := K.own j e he
    refine ⟨World.ownsRow.kept h1 hg ?_, h2, h3, by rw [hs]; exact h4⟩
    cases hb : (Sl.val e.1).ownBlock with
    | none => exact Or.inl hb
    | some z =>
      right
      have h5 := (IntO.lt h1 z hb).1
      have h7 : (Value.slice e.1.1 e.1.2.2.length e.1.2.1).ownBlock = some z := hb
      rw [h7]
      simp
      omega
def rwOf (Lo : List MkI) (i : Nat) : apartI.Rw := match Lo[i]? with
  | some e => (e.1.1, e.1.2.1, e.1.2.2.length)
  | none => (none, 0, 0)
theorem rwOf_some {Lo : List MkI} {i : Nat} {e : MkI} (h : Lo[i]? = some e) : rwOf Lo i = (e.1.1, e.1.2.1, e.1.2.2.length) := by unfold rwOf; rw [h]
theorem own_chooseI {B : Nat} {w : World} {L : List apartI.Rw} (h : ∀ (k : Nat) (x : apartI.Rw), L[k]? = some x → ∃ xs, w.ownsRow B apartI.E 1 x.val x.2.2 xs) : ∃ C, apartI.OwnAll B w L C := by
  have key : ∀ k : Nat, ∃ xs : List Value, ∀ x : apartI.Rw, L[k]? = some x → w.ownsRow B apartI.E 1 x.val x.2.2 xs := fun k => by
    cases hk : L[k]? with
    | none => exact ⟨[], fun x hx => by cases hx⟩
    | some y =>
      obtain ⟨xs, hxs⟩ := h k y hk
      exact ⟨xs, fun x hx => by obtain rfl := Option.some.inj hx; exact hxs⟩
  exact ⟨fun k => Classical.choose (key k), fun k x hx => Classical.choose_spec (key k) x hx⟩
theorem IntO.toV_of {base : Nat} {w w' : World} {p : Option Addr} {c : Nat} {l : List Int} (h : IntO base w p c l) (hs : w.heap.size ≤ w'.heap.size) (hb : ∀ z, base ≤ z → z < w.heap.size → (Sl.val (p, c, l)).ownBlock = some z → w'.heap[z]? = w.heap[z]?) : IntV w'.heap.size w' p c l := by
  have hv := h.toV
  refine ⟨hv.le, hv.cap, hv.nil, fun hn => ?_⟩
  rcases own_shape h with ⟨hv', h0, _⟩ | ⟨g, cap, hv', hg, hgl, hc, hm, hcl, _⟩
  · exact absurd (List.eq_nil_of_length_eq_zero h0) hn
  · obtain ⟨rfl, rfl⟩ : p = some ⟨g, 0, none⟩ ∧ c = cap := by simpa using hv'
    exact ⟨g, 0, rfl, by omega, fun j x hx => by rw [Nat.zero_add]; exact (World.cell?_of_block (hb g hg hgl rfl)).trans ((hcl j (ltI hx)).trans (cI_get hx))⟩
/-- what is left when lists were found apart: the lent ones, and the made ones that were not asked -/
def ApartPost (w : World) (Ls : List (Nat × List Int)) (Lo : List MkI) (Ks : List Nat) (e : Ending) (w' : World) : Prop :=
  e = .returned (.bool true) ∧ Below w.heap.size w w' ∧ (∀ (i : Nat) (x : Nat × List Int), Ls[i]? = some x → LentI w' x.1 x.2) ∧ ∀ (i : Nat) (f : MkI), Lo[i]? = some f → i ∉ Ks → IntV w'.heap.size w' f.1.1 f.1.2.1 f.1.2.2
theorem Kq.apart_call {w wx : World} {B : Nat} {Ls : List (Nat × List Int)} {Lo : List MkI} (K : Kq w wx B Ls Lo) (Ks : List Nat) (hK : Ks.Nodup) (cs : Array Value) (t : TypeId) (n : Nat) (hn : n = Ks.length) (hn2 : n ≤ 1000)
    (hall : ∀ (k i : Nat), Ks[k]? = some i → ∃ e : MkI, Lo[i]? = some e ∧ cs[k]? = some (Sl.val e.1) ∧ e.1.2.2.length ≤ 100000) :
    Calls Tryd.prog 30 #[.slice (some ⟨wx.heap.size, 0, none⟩) n n] (wx.alloc (.cells cs t)) (ApartPost w Ls Lo Ks) := by
  subst hn
  have hL : ∀ (k : Nat) (x : apartI.Rw), (Ks.map (rwOf Lo))[k]? = some x → ∃ (i : Nat) (e : MkI), Ks[k]? = some i ∧ Lo[i]? = some e ∧ x = (e.1.1, e.1.2.1, e.1.2.2.length) ∧ cs[k]? = some (Sl.val e.1) ∧ e.1.2.2.length ≤ 100000 := fun k x hx => by
    rw [List.getElem?_map] at hx
    obtain ⟨i, hi, rfl⟩ := Option.map_eq_some_iff.1 hx
    obtain ⟨e, he, hc, hl⟩ := hall k i hi
    exact ⟨i, e, hi, he, rwOf_some he, hc, hl⟩
  have hval : ∀ e : MkI, apartI.Rw.val (e.1.1, e.1.2.1, e.1.2.2.length) = Sl.val e.1 := fun e => rfl
  have key : ∀ (i : Nat) (e : MkI), Lo[i]? = some e → (Sl.val e.1).ownBlock = none ∨ ∃ z, (Sl.val e.1).ownBlock = some z ∧ e.2.1 ≤ z ∧ z < e.2.2 := fun i e he => by
    cases hb : (Sl.val e.1).ownBlock with
    | none => exact Or.inl rfl
    | some z => exact Or.inr ⟨z, rfl, (IntO.lt (K.own i e he).1 z hb).1, (K.own i e he).2.2.1 z hb⟩
  have hsz : wx.heap.size < (wx.alloc (.cells cs t)).heap.size := by simp
  have hP : apartI.Parts (Ks.map (rwOf Lo)) wx.heap.size := by
    refine ⟨fun k k' x x' hx hx' hne => ?_, fun k x hx => ?_⟩
    · obtain ⟨i, e, hi, he, rfl, _⟩ := hL k x hx
      obtain ⟨j, f, hj, hf, rfl, _⟩ := hL k' x' hx'
      have hij : i ≠ j := by
        rintro rfl
        obtain ⟨h1, h2⟩ := List.getElem?_eq_some_iff.1 hi
        obtain ⟨h3, h4⟩ := List.getElem?_eq_some_iff.1 hj
        have hp := List.pairwise_iff_getElem.1 hK
        rcases Nat.lt_or_gt_of_ne hne with h | h
        · exact hp k k' h1 h3 h (h2.trans h4.symm)
        · exact hp k' k h3 h1 h (h4.trans h2.symm)
      rw [hval, hval]
      rcases key i e he with h | ⟨z, h1, h2, h3⟩
      · exact Or.inl h
      · right
        rcases key j f hf with h | ⟨z', h4, h5, h6⟩
        · rw [h1, h]; intro e'; cases e'
        · intro e'
          rw [h1, h4] at e'
          have e3 := Option.some.inj e'
          rcases Nat.lt_or_gt_of_ne hij with h | h
          · have := K.apart i j e f h he hf; omega
          · have := K.apart j i f e h hf he; omega
    · obtain ⟨i, e, hi, he, rfl, _⟩ := hL k x hx
      rw [hval]
      intro e'
      have h1 := (K.own i e he).2.2.1 _ e'
      have h2 := (K.own i e he).2.2.2
      omega
  obtain ⟨C0, hC0⟩ := own_chooseI (B := B) (w := wx.alloc (.cells cs t)) (L := Ks.map (rwOf Lo)) (fun k x hx => by
    obtain ⟨i, e, _, he, rfl, _⟩ := hL k x hx
    obtain ⟨h1, h2, _, _⟩ := K.own i e he
    exact ⟨_, World.ownsRow.alloc (h1.base h2) _⟩)
  have hS : apartI.Sit (wx.alloc (.cells cs t)) wx.heap.size 0 (Ks.map (rwOf Lo)) := ⟨hsz, fun j x hx => by
    obtain ⟨i, e, _, he, rfl, hc, _⟩ := hL j x hx
    rw [Nat.zero_add, cell_alloc_row, hval, hc]⟩
  have hlen : ∀ x ∈ Ks.map (rwOf Lo), x.2.2 ≤ 100000 := fun x hx => by
    obtain ⟨k, hk⟩ := List.getElem?_of_mem hx
    obtain ⟨i, e, _, _, rfl, _, hl⟩ := hL k x hk
    exact hl
  have h := apartI.apart_any B (Ks.map (rwOf Lo)) wx.heap.size 0 Ks.length (wx.alloc (.cells cs t)) (Nat.le_trans K.base (Nat.le_of_lt hsz)) hP C0 hC0 hS (by rw [List.length_map]; exact hn2) hlen (by rw [List.length_map]; exact Nat.le_refl _) (by omega)
  rw [List.length_map] at h
  refine h.mono ?_
  rintro e w' ⟨rfl, hfr⟩
  have hblk : ∀ z, z < wx.heap.size → (∀ (k i : Nat) (e : MkI), Ks[k]? = some i → Lo[i]? = some e → (Sl.val e.1).ownBlock ≠ some z) → w'.heap[z]? = wx.heap[z]? := fun z hz hno => by
    rw [hfr.block z (Nat.lt_trans hz hsz) (fun k x hx => by
      obtain ⟨i, e, hi, he, rfl, _⟩ := hL k x hx
      rw [hval]
      exact hno k i e hi he)]
    exact Below.heap_alloc _ _ _ hz
  have hlow : ∀ z, z < B → w'.heap[z]? = wx.heap[z]? := fun z hz => hblk z (Nat.lt_of_lt_of_le hz K.base) (fun k i e _ he h => by
    have h1 := (IntO.lt (K.own i e he).1 z h).1
    have h2 := (K.own i e he).2.1
    omega)
  have hBl : ∀ z, z < w.heap.size → w'.heap[z]? = wx.heap[z]? := fun z hz => hlow z (Nat.lt_of_lt_of_le hz K.low)
  refine ⟨rfl, K.below.trans ⟨hfr.os, hfr.tape, hfr.output, by have := hfr.size; have := K.below.size; omega, fun k hk => hBl k hk⟩, fun i x hx => ?_, fun i f hf hni => ?_⟩
  · obtain ⟨h1, _, h3⟩ := K.lent i x hx
    exact h1.block (hlow x.1 h3)
  · obtain ⟨h1, h2, h3, h4⟩ := K.own i f hf
    refine IntO.toV_of h1 (by have := hfr.size; omega) (fun z hz1 hz2 hzo => hblk z hz2 (fun k j e hj he hze => ?_))
    have hij : i ≠ j := by rintro rfl; exact hni (List.mem_of_getElem? hj)
    have e1 := (IntO.lt (K.own j e he).1 z hze).1
    have e2 := (K.own j e he).2.2.1 z hze
    have e3 := h3 z hzo
    rcases Nat.lt_or_gt_of_ne hij with h | h
    · have := K.apart i j f e h hf he; omega
    · have := K.apart j i e f h he hf; omega
end Go.Proofs.YtgdjnohhofbcnaaDoor
end
section
namespace Go.Proofs.YtgdjnohhofbcnaaDoor
open Go.RowKit Go

theorem wp_pushI {o : Oper} {a : Act} {K : Act → World → Prop} {Q : Exit → Act → World → Prop} {w : World} (s x : Operand)
    (ho : o.op = .call { callee := .builtin .append, args := #[s, x], argTypes := #[22, 22] }) (base : Nat) (p : Option Addr) (n c : Nat) (l : List Int) (hs : a.eval s = .slice p n c) (hn : n = l.length) (h : IntO base w p c l) (hB : base ≤ w.heap.size)
    (B : Nat) (y : Int) (hx : a.eval x = .slice (some ⟨B, 0, none⟩) 1 1) (hb : w.heap[B]? = some (.cells #[.int .i64 y] 3 (0, 0))) (hl : l.length ≤ 1000000)
    (hK : ∀ p' c' w', IntO base w' p' c' (l ++ [y]) → Below base w w' → K (a.put o.dst (.slice p' (n + 1) c')) w') : o.wp Tryd.prog a w K Q := by
  obtain ⟨i0, hi, hz0, hz1, hz2⟩ := info_parts infoI
  subst hn
  refine wp_append_lies w s x 22 ho base 3 i0 (.int .i64 0) 1 8 Tryd.underlying22 hi hz0 hz1 hz2 rfl (by decide) _ l.length (cI l) hs h ⟨B, 0, none⟩ 1 1 [.int .i64 y] hx (by simp) (World.news_of_block hb) (by simp [Value.oneCell']) (by omega) (by unfold maxLen; omega) (by omega) hB w.heap.size rfl ?_
  intro g cap w' hown hgrow _ _
  have hxs : cI l ++ [Value.int .i64 y] = cI (l ++ [y]) := by rw [cI_app]; rfl
  rw [hxs] at hown
  have hown2 : w'.ownsRow base 3 1 (.slice (some ⟨g, 0, none⟩) (l.length + 1) cap) (l ++ [y]).length (cI (l ++ [y])) := by rw [List.length_append]; exact hown
  obtain ⟨p', c', he, ho'⟩ := IntO.slice_own hown2
  rw [List.length_append] at he
  rw [he]
  exact hK p' c' w' ho' ((Below.refl _ _).grown hgrow hB (fun j hj => (World.ownsRow.lt h j hj).1))
theorem step_pushI {ops : Array Oper} {o : Oper} {a : Act} {K : Act → World → Prop} {Q : Exit → Act → World → Prop} {E : Prop} {w : World} (hgd : o.guard = none) (s x : Operand)
    (ho : o.op = .call { callee := .builtin .append, args := #[s, x], argTypes := #[22, 22] }) (base : Nat) (p : Option Addr) (n c : Nat) (l : List Int) (hs : a.eval s = .slice p n c) (hn : n = l.length) (h : IntO base w p c l) (hB : base ≤ w.heap.size)
    (B : Nat) (y : Int) (hx : a.eval x = .slice (some ⟨B, 0, none⟩) 1 1) (hb : w.heap[B]? = some (.cells #[.int .i64 y] 3 (0, 0))) (hl : l.length ≤ 1000000)
    (hK : ∀ p' c' w', IntO base w' p' c' (l ++ [y]) → Below base w w' → K (a.put o.dst (.slice p' (n + 1) c')) w') :
    if Region.wanted o (yielded ops a.tmps) = true then Oper.wp Tryd.prog o a w K Q else E := by
  have hw : Region.wanted o (yielded ops a.tmps) = true := by simp [Region.wanted, hgd]
  rw [if_pos hw]
  exact wp_pushI s x ho base p n c l hs hn h hB B y hx hb hl hK
theorem wpList_pushI {ops : Array Oper} {rest : List Oper} {o : Oper} {a : Act} {Q : Exit → Act → World → Prop} {w : World} (hgd : o.guard = none) (s x : Operand)
    (ho : o.op = .call { callee := .builtin .append, args := #[s, x], argTypes := #[22, 22] }) (base : Nat) (p : Option Addr) (n c : Nat) (l : List Int) (hs : a.eval s = .slice p n c) (hn : n = l.length) (h : IntO base w p c l) (hB : base ≤ w.heap.size)
    (B : Nat) (y : Int) (hx : a.eval x = .slice (some ⟨B, 0, none⟩) 1 1) (hb : w.heap[B]? = some (.cells #[.int .i64 y] 3 (0, 0))) (hl : l.length ≤ 1000000)
    (hK : ∀ p' c' w', IntO base w' p' c' (l ++ [y]) → Below base w w' → wpList Tryd.prog ops Q rest (a.put o.dst (.slice p' (n + 1) c')) w') : wpList Tryd.prog ops Q (o :: rest) a w :=
  wpList_plain hgd fun _ h' => wp_pushI s x ho base p n c l hs hn h hB B y hx hb hl fun p' c' w' h1 h2 => h' _ _ (hK p' c' w' h1 h2)
end Go.Proofs.YtgdjnohhofbcnaaDoor
end
section
namespace Go.Proofs.YtgdjnohhofbcnaaDoor
open Go.ChangeShapes Go.WideShapes Go.ChangeAt Go.RowKit WordM RuleM

theorem fld_int {H : Type} {enc : TypeId × Value → H} {W : World} {n : Nat} {c : Value} {y : DataW H × List MemPlace} (h : DataW.trod enc Tryd.prog W 0 (fun _ => true) true n 3 [c] = some y) : ∃ x : Int, c = .int .i64 x ∧ -9223372036854775808 ≤ x ∧ x ≤ 9223372036854775807 := by
  obtain ⟨x, hx, _, hw⟩ := DataW.trod_int Tryd.underlying3 h
  exact ⟨x, by simpa using hx, wf_i64 hw⟩
theorem fld_ints {H : Type} {enc : TypeId × Value → H} {W : World} {n : Nat} {c : Value} {y : DataW H × List MemPlace} (h : DataW.trod enc Tryd.prog W 0 (fun _ => true) true n 22 [c] = some y) (hlt : ∀ x ∈ y.2, x.block < W.heap.size) (hw : ∀ x ∈ y.1.weights Tryd.prog 22, x ≤ reachBytes) :
    ∃ (a : Option Addr) (cap : Nat) (l : List Int), c = .slice a l.length cap ∧ IntV W.heap.size W a cap l ∧ okI l ∧ l.length ≤ 17592186043904 := by
  have hs : ∃ a len cap, c = .slice a len cap := by
    rcases Go.Deep.open_slice Tryd.underlying22 h with ⟨hcs, _⟩ | ⟨a, len, cap, _, _, _, _, hcs, _⟩
    · exact ⟨none, 0, 0, by simpa using hcs⟩
    · exact ⟨some a, len, cap, by simpa using hcs⟩
  have ht : DataW.Trod enc Tryd.prog W 0 (fun _ => true) true 22 c y.1 y.2 := by
    refine ⟨n, ?_⟩
    obtain ⟨a, len, cap, rfl⟩ := hs
    simpa [Value.cells] using h
  obtain ⟨a, cap, l, rfl, h1, h2⟩ := open_intl hs ht hlt
  exact ⟨a, cap, l, rfl, h1, h2, open_reach ht hw⟩
theorem cellsRule3 : Tryd.prog.cellsOf 24 = 3 := by kernel_rfl
set_option maxRecDepth 100000 in
/-- a rule that came in: its table's length is in reach -/
theorem open_rule {H : Type} {enc : TypeId × Value → H} {W : World} {v : Value} {d : DataW H} {p : List MemPlace} {r : Reach} {b0 : Nat} (hv : Value.okWide Tryd.prog W r b0 24 v)
    (h : DataW.Trod enc Tryd.prog W 0 (fun _ => true) true 24 v d p) (hlt : ∀ x ∈ p, x.block < W.heap.size) (hw : ∀ x ∈ d.weights Tryd.prog 24, x ≤ reachBytes) :
    ∃ (k r : Int) (a : Option Addr) (cap : Nat) (l : List Int), v = .agg #[.int .i64 k, .int .i64 r, .slice a l.length cap] ∧ IntV W.heap.size W a cap l ∧ l.length ≤ 17592186043904 := by
  obtain ⟨v0, v1, v2, y0, y1, y2, n, rfl, rfl, rfl, h0, h1, h2⟩ := Go.Joins.open_agg3 Tryd.underlying24 (by kernel_rfl) cellsRule3 hv h
  obtain ⟨k, rfl, _⟩ := fld_int h0
  obtain ⟨q, rfl, _⟩ := fld_int h1
  obtain ⟨a, cap, l, rfl, h3, _, h4⟩ := fld_ints h2 (fun x hx => hlt x (by simp [hx])) (fun x hx => hw x (by
    unfold DataW.weights
    rw [Tryd.underlying24]
    exact weights_get _ _ 2 _ _ rfl rfl x hx))
  exact ⟨k, q, a, cap, l, rfl, h3, h4⟩
end Go.Proofs.YtgdjnohhofbcnaaDoor
end
section
namespace Go.Proofs.YtgdjnohhofbcnaaDoor
open Go.ChangeShapes Go.WideShapes Go.ChangeAt Go.RowKit NatM

theorem cells32_1 : Tryd.prog.cellsOf 126 = 1 := by kernel_rfl
theorem wf_u32 {n : Int} (h : (Lit.int .u32 n).wf = true) : 0 ≤ n ∧ n < 4294967296 := by
  have := bounds_u32 h
  omega
end Go.Proofs.YtgdjnohhofbcnaaDoor
end
section
namespace Go.Proofs.YtgdjnohhofbcnaaDoor
open Go.RowKit Go.Extern WordM NatM

/-- an Err of package word: its number k at place pl -/
def RefErrW (w : World) (pl k : Int) (v : Value) (w' : World) : Prop :=
  ∃ g g', v = .agg #[.int .i64 k, .slice (some ⟨g, 0, none⟩) 1 1, .slice (some ⟨g', 0, none⟩) 1 1] ∧ (w.heap.size ≤ g ∧ w.heap.size ≤ g') ∧ WantV w' (some ⟨g, 0, none⟩) (some ⟨g', 0, none⟩) 1 1 [(wordOp, pl)] ∧ Below w.heap.size w w'
theorem WantV.put3 {w : World} {g g' h : Nat} {op : ByteArray} {pl : Int} (hv : WantV w (some ⟨g, 0, none⟩) (some ⟨g', 0, none⟩) 1 1 [(op, pl)]) (hg : g ≠ h) (hg' : g' ≠ h) (a b c : Value) : WantV (put3 w h a b c) (some ⟨g, 0, none⟩) (some ⟨g', 0, none⟩) 1 1 [(op, pl)] := by
  obtain ⟨b1, o1, e1, l1, c1⟩ := hv.ops (by simp)
  obtain ⟨b2, o2, e2, l2, c2⟩ := hv.ats (by simp)
  obtain ⟨rfl, rfl⟩ : g = b1 ∧ 0 = o1 := by simpa using e1
  obtain ⟨rfl, rfl⟩ : g' = b2 ∧ 0 = o2 := by simpa using e2
  exact WantV.one (by rw [put3_size]; exact l1) (by rw [put3_size]; exact l2) ((put3_cell w h a b c _ hg).trans (c1 0 _ rfl)) ((put3_cell w h a b c _ hg').trans (c2 0 _ rfl))
def RefErrW1 (w : World) (pl k : Int) (e : Ending) (w' : World) : Prop := ∃ v, e = .returned v ∧ RefErrW w pl k v w'
/-- refused: the zero value v0, and the error -/
def RefErrW2 (w : World) (v0 : Value) (pl k : Int) (e : Ending) (w' : World) : Prop := ∃ v, e = .returned (.tuple #[v0, v]) ∧ RefErrW w pl k v w'


end Go.Proofs.YtgdjnohhofbcnaaDoor
end
section
namespace Go.Proofs.YtgdjnohhofbcnaaDoor
open Go.RowKit Go.Extern.Stop Go.Stop Go.Extern WordM RuleM NatM
attribute [local go_sem ↓] Go.wp_at_zero Go.wp_at_succ

/-- an Err of package rule: its number k at place pl; its two slices are new -/
def RefErrR (w : World) (pl k : Int) (v : Value) (w' : World) : Prop :=
  ∃ g g', v = .agg #[.int .i64 k, .slice (some ⟨g, 0, none⟩) 1 1, .slice (some ⟨g', 0, none⟩) 1 1] ∧ (w.heap.size ≤ g ∧ w.heap.size ≤ g') ∧ WantV w' (some ⟨g, 0, none⟩) (some ⟨g', 0, none⟩) 1 1 [(ruleOp, pl)] ∧ Below w.heap.size w w'
def RefErrR1 (w : World) (pl k : Int) (e : Ending) (w' : World) : Prop := ∃ v, e = .returned v ∧ RefErrR w pl k v w'
/-- refused: the zero value v0, and the error -/
def RefErrR2 (w : World) (v0 : Value) (pl k : Int) (e : Ending) (w' : World) : Prop := ∃ v, e = .returned (.tuple #[v0, v]) ∧ RefErrR w pl k v w'
theorem RefErrR.laid {w wx w2 : World} {h g g' : Nat} {pl k : Int} (hb : Below w.heap.size w wx) (hh : w.heap.size ≤ h) (hlt : h < wx.heap.size) (hg : wx.heap.size ≤ g ∧ g < w2.heap.size ∧ wx.heap.size ≤ g' ∧ g' < w2.heap.size)
    (hc : w2.cell? ⟨g, 0, none⟩ = some (.string ruleOp)) (hc' : w2.cell? ⟨g', 0, none⟩ = some (.int .i64 pl)) (hb2 : Below wx.heap.size wx w2) (a b c : Value) :
    RefErrR w pl k (.agg #[.int .i64 k, .slice (some ⟨g, 0, none⟩) 1 1, .slice (some ⟨g', 0, none⟩) 1 1]) (put3 w2 h a b c) := by
  have hs := hb.size
  refine ⟨g, g', rfl, ⟨by omega, by omega⟩, ?_, put3_below (hb.trans (hb2.mono hs)) hh _ _ _⟩
  exact WantV.put3 (WantV.one hg.2.1 hg.2.2.2 hc hc') (by omega) (by omega) _ _ _
theorem Err3.lt {w : World} {h : Nat} {a b c : Value} (k : Err3 w h a b c) : h < w.heap.size := heap_ltN k.heap
theorem start_err (w w0 : World) (hw0 : w0 = w.alloc (.cells #[.int .i64 0, .slice none 0 0, .slice none 0 0] 34)) : Below w.heap.size w w0 ∧ Err3 w0 w.heap.size (.int .i64 0) (.slice none 0 0) (.slice none 0 0) :=
  ⟨by rw [hw0]; exact (Below.refl _ _).alloc (Nat.le_refl _) _, by rw [hw0]; exact Err3.new w⟩
theorem start_both (w : World) (a b c : Value) (w0 : World) (hw0 : w0 = (w.alloc (.cells #[a, b, c] 24)).alloc (.cells #[.int .i64 0, .slice none 0 0, .slice none 0 0] 34)) :
    Below w.heap.size w w0 ∧ Rul3 w0 w.heap.size a b c ∧ Err3 w0 (w.heap.size + 1) (.int .i64 0) (.slice none 0 0) (.slice none 0 0) := by
  have h1 : Below w.heap.size w (w.alloc (.cells #[a, b, c] 24)) := (Below.refl _ _).alloc (Nat.le_refl _) _
  obtain ⟨h2, h3⟩ := start_err (w.alloc (.cells #[a, b, c] 24)) w0 hw0
  have hs : (w.alloc (.cells #[a, b, c] 24)).heap.size = w.heap.size + 1 := by simp
  rw [hs] at h3
  exact ⟨h1.trans (h2.mono h1.size), (Rul3.new w a b c).next h2, h3⟩

theorem small_pow7 {k j : Nat} (h4 : k ≤ 4) (h : j ≤ 7) : k ^ j ≤ 16384 := Nat.le_trans (Nat.pow_le_pow_left h4 _) (Nat.le_trans (Nat.pow_le_pow_right (by omega) h) (by decide))
set_option maxHeartbeats 1000000 in
theorem power_ref (k n : Nat) (w : World) (h4 : k ≤ 4) (h7 : n ≤ 7) :
    Calls Tryd.prog 75 #[.int .i64 (k : Int), .int .i64 (n : Int)] w fun e w' => e = .returned (.int .i64 ((k ^ n : Nat) : Int)) ∧ w = w' := by
  go_enter Tryd.func75, Tryd.ntmps75
  go_wp2_with fail
  go_loop [5, 6] (fun v5 v6 => ∃ j : Nat, j ≤ n ∧ v6 = .int .i64 (j : Int) ∧ v5 = .int .i64 ((k ^ j : Nat) : Int)) (fun _ v => n - (intOf v).toNat)
  case atStart => exact ⟨0, Nat.zero_le _, rfl, by simp⟩
  case round =>
    obtain ⟨j, hj, rfl, rfl⟩ := hrel
    by_cases hlt : j < n
    · have hs := small_pow7 (j := j) h4 (by omega)
      have hn := Nat.pow_succ k j
      obtain ⟨s, hs'⟩ : ∃ s, k ^ j = s := ⟨_, rfl⟩
      rw [hs'] at hn hs ⊢
      have hsq : s * k ≤ 16384 * 4 := Nat.mul_le_mul hs h4
      have hsm : ((s : Int) * (k : Int)) = ((s * k : Nat) : Int) := by push_cast; rfl
      obtain ⟨u, hu⟩ : ∃ u, s * k = u := ⟨_, rfl⟩
      rw [hu] at hsq hsm hn
      have w2 : IntKind.i64.wrap ((s : Int) * (k : Int)) = (u : Int) := by rw [hsm, IntWalk.i64_in _ (by omega)]
      have HU := Lib.hid hn
      clear hn hs' hsm hu
      go_wp2_with fail
      go_round
      case rel => exact ⟨j + 1, by omega, by go_num, by rw [HU.out]⟩
      case measure => simp [intOf]; omega
    · obtain rfl : j = n := by omega
      go_wp2_with fail
      go_ret
      exact ⟨rfl, rfl⟩

/-- the place of the first number that is none of k symbols; -1, where there is none -/
def badN (k : Int) (l : List Int) : Int := match l.findIdx? (badAt k) with
  | some i => (i : Int)
  | none => -1
theorem badN_ok {k : Nat} {l : List Int} (h : okW k l) : badN k l = -1 := by unfold badN; rw [bad_none.2 h]
theorem badN_bad {k : Int} {l : List Int} {i : Nat} (h : l.findIdx? (badAt k) = some i) : badN k l = (i : Int) := by unfold badN; rw [h]
theorem bad_ref (k : Int) (p : Option Addr) (n c : Nat) (l : List Int) (w : World) (hn : n = l.length) (h : IntV w.heap.size w p c l) :
    Calls Tryd.prog 58 #[.int .i64 k, .slice p n c] w fun e w' => e = .returned (.int .i64 (badN k l)) ∧ w = w' := by
  have hle := h.le
  have hcap := h.cap
  unfold maxLen at hcap
  have hnc : n ≤ c := by omega
  obtain ⟨z, hz⟩ : ∃ z, badN k l = z := ⟨_, rfl⟩
  rw [hz]
  unfold badN at hz
  have hcases : (z = -1 ∧ ∀ (j : Nat) (x : Int), l[j]? = some x → badAt k x = false) ∨ (∃ i : Nat, z = i ∧ i < n ∧ (∃ x : Int, l[i]? = some x ∧ badAt k x = true) ∧ ∀ (j : Nat) (x : Int), j < i → l[j]? = some x → badAt k x = false) := by
    cases hf : l.findIdx? (badAt k) with
    | none =>
      rw [hf] at hz
      left
      refine ⟨hz.symm, fun j x hx => ?_⟩
      rw [List.findIdx?_eq_none_iff] at hf
      exact hf x (List.mem_of_getElem? hx)
    | some i =>
      rw [hf] at hz
      obtain ⟨hil, hbad, hall⟩ := List.findIdx?_eq_some_iff_getElem.1 hf
      right
      refine ⟨i, hz.symm, by omega, ⟨_, List.getElem?_eq_getElem hil, hbad⟩, fun j x hj hx => ?_⟩
      have := hall j hj
      rw [List.getElem?_eq_getElem (by omega)] at hx
      obtain rfl := Option.some.inj hx
      simpa using this
  have H := Lib.hid (And.intro h hn)
  clear h hz hn hle
  rcases hcases with ⟨rfl, hall⟩ | ⟨i, rfl, hin, ⟨xb, hxb, hxb'⟩, hall⟩
  · have HA := Lib.hid hall
    clear hall
    go_enter Tryd.func58, Tryd.ntmps58
    go_wp2_with fail
    go_loop [5] (fun v => ∃ j : Nat, j ≤ n ∧ v = .int .i64 (j : Int)) (fun v => n - (intOf v).toNat)
    case atStart => exact ⟨0, Nat.zero_le _, rfl⟩
    case round =>
      obtain ⟨j, hj, rfl⟩ := hrel
      by_cases hlt : j < n
      · have hnl := H.out.2
        obtain ⟨b, off, rfl, hb, hc⟩ := H.out.1.cell (by rintro rfl; simp at hnl; omega)
        obtain ⟨x, hx⟩ := getI (l := l) (k := j) (by omega)
        have hcx := hc j x hx
        have hg := HA.out j x hx
        unfold badAt at hg
        simp at hg
        have hx1 : ¬ x < 0 := by omega
        have hx2 : ¬ k ≤ x := by omega
        clear hc hx hg hnl
        go_wp2_with fail
        go_round
        case rel => exact ⟨j + 1, by omega, by go_num⟩
        case measure => simp [intOf]; omega
      · obtain rfl : j = n := by omega
        go_wp2_with fail
        go_ret
        exact ⟨rfl, rfl⟩
  · have HA := Lib.hid (And.intro hall (And.intro hxb hxb'))
    clear hall hxb hxb'
    go_enter Tryd.func58, Tryd.ntmps58
    go_wp2_with fail
    go_loop [5] (fun v => ∃ j : Nat, j ≤ i ∧ v = .int .i64 (j : Int)) (fun v => n - (intOf v).toNat)
    case atStart => exact ⟨0, Nat.zero_le _, rfl⟩
    case round =>
      obtain ⟨j, hj, rfl⟩ := hrel
      have hnl := H.out.2
      obtain ⟨b, off, rfl, hb, hc⟩ := H.out.1.cell (by rintro rfl; simp at hnl; omega)
      by_cases hlt : j < i
      · obtain ⟨x, hx⟩ := getI (l := l) (k := j) (by omega)
        have hcx := hc j x hx
        have hg := HA.out.1 j x hlt hx
        unfold badAt at hg
        simp at hg
        have hx1 : ¬ x < 0 := by omega
        have hx2 : ¬ k ≤ x := by omega
        clear hc hx hg hnl
        go_wp2_with fail
        go_round
        case rel => exact ⟨j + 1, by omega, by go_num⟩
        case measure => simp [intOf]; omega
      · obtain rfl : j = i := by omega
        have hcx := hc j xb HA.out.2.1
        have hg := HA.out.2.2
        unfold badAt at hg
        simp at hg
        clear hc hnl
        rcases Int.lt_or_le xb 0 with hx1 | hx1
        · clear hg
          go_wp2_with fail
          go_ret
          exact ⟨rfl, rfl⟩
        · have hx2 : k ≤ xb := by omega
          have hx3 : ¬ xb < 0 := by omega
          clear hg
          go_wp2_with fail
          go_ret
          exact ⟨rfl, rfl⟩

/-- how many windows, and no error -/
def SizeRef (w : World) (n : Nat) (e : Ending) (w' : World) : Prop := e = .returned (.tuple #[.int .i64 (n : Int), noErr]) ∧ Below w.heap.size w w'
end Go.Proofs.YtgdjnohhofbcnaaDoor
end
