/- What the longer list gives: beside api's errors their texts, and strconv's table; and one world that meets it. -/
import Derived.Test.YtmbgfcanchmmpaaDoorLawPost
import Derived.Test.YtmbgfcanchmmpaaDoorMakesWalkB
import Derived.Lib.LaidTab
import Derived.SizedLaws
namespace Go.Proofs.YtmbgfcanchmmpaaDoor
open Go.ChangeShapes Go.WideShapes Go.ChangeAt Go.RowKit

set_option maxRecDepth 100000 in
theorem text_of {W : World} (l : List (String × DataW Unit)) : ∀ (ps : List MemPlace), DataW.LaidVars Tryd.prog W l ps →
    (∀ x ∈ l, ∃ text, x.2 = .iface "*errors.errorString" (.ptr (.agg [.lit (.string text)]))) → (∀ x ∈ l, ∀ g, Tryd.prog.globalNamed x.1 = some g → (Tryd.prog.globals[g]?).map (·.type) = some 28) →
    (∀ b off, MemPlace.cell b off ∈ ps → (∃ c t, W.heap[b]? = some (.cells c t (0, 0))) ∧ ∀ u v, W.cell? ⟨b, off, none⟩ = some (.iface u v) → Value.okWide Tryd.prog W .any 0 u v) →
    ∀ x ∈ l, ∀ g a, Tryd.prog.globalNamed x.1 = some g → W.cell? ⟨g, 0, none⟩ = some (.iface 94 (.pointer (some a))) → ∃ s : ByteArray, W.cell? a = some (.string s) ∧ x.2 = .iface "*errors.errorString" (.ptr (.agg [.lit (.string s.data.toList)])) := by
  induction l with
  | nil => intro ps _ _ _ _ x hx; cases hx
  | cons y r ih =>
    obtain ⟨n, d⟩ := y
    intro ps h hf hg hrows x hx g' a hg' ha
    obtain ⟨g, t, cs, f0, p0, q0, hg0, ht0, hv0, hd0, hr, rfl⟩ := h
    rcases List.mem_cons.1 hx with rfl | hx
    · obtain ⟨text, hx⟩ := hf (n, d) (List.mem_cons_self ..)
      simp only at hx
      subst hx
      have ht := hg _ (List.mem_cons_self ..) g hg0
      obtain rfl := Option.some.inj (ht.symm.trans ht0)
      obtain ⟨l0⟩ := cs
      have ok0 : ∀ u v, l0 = [.iface u v] → Value.okWide Tryd.prog W .any 0 u v := fun u v e => by
        subst e
        exact (hrows g 0 (by simp [MemPlace.row])).2 u v (by simpa using World.var?_cell hg0 hv0 0)
      obtain ⟨a', s, rfl, hc, hs, hz, rfl⟩ := errorString_of_trod Tryd.underlying28 row94 Tryd.underlying94 Tryd.underlying96 rfl rfl Tryd.underlying9 cells96 cells9 hd0 ok0
      obtain rfl := Option.some.inj (hg0.symm.trans hg')
      have e := Option.some.inj ((World.var?_cell hg0 hv0 0).symm.trans ha)
      have e2 : a' = a := by simpa using e
      subst e2
      exact ⟨s, hc, by rw [hs]⟩
    · exact ih q0 hr (fun x hx => hf x (List.mem_cons_of_mem _ hx)) (fun x hx => hg x (List.mem_cons_of_mem _ hx)) (fun b off hm => hrows b off (List.mem_append_right _ hm)) x hx g' a hg' ha

def nameOf : Nat → String
  | 1 => "eden/api.BadRule" | 2 => "eden/api.BadWord" | 3 => "eden/api.BadArg" | 4 => "eden/api.TooBig" | 5 => "eden/api.NoBudget" | 6 => "eden/api.BadText"
  | 7 => "eden/api.BadPatch" | 8 => "eden/api.BadCert" | 9 => "eden/api.NoInverse" | 10 => "eden/api.BadLine" | 11 => "eden/api.BadState" | _ => "eden/api.Unknown"
theorem nameOf_var (k : Nat) (hk : k ≤ 11) : Tryd.prog.globalNamed (nameOf k) = some (rootVar k) := by
  match k, hk with
  | 0, _ => exact gUnknown
  | 1, _ => exact gBadRule
  | 2, _ => exact gBadWord
  | 3, _ => exact gBadArg
  | 4, _ => exact gTooBig
  | 5, _ => exact gNoBudget
  | 6, _ => exact gBadText
  | 7, _ => exact gBadPatch
  | 8, _ => exact gBadCert
  | 9, _ => exact gNoInverse
  | 10, _ => exact gBadLine
  | 11, _ => exact gBadState
def isShort (x : String × DataW Unit) (k : Nat) : Bool := x.1 == nameOf k && (match x.2 with
  | .iface _ (.ptr (.agg [.lit (.string s)])) => decide (s.length ≤ 64)
  | _ => false)
theorem nameOf_mem (k : Nat) (hk : k ≤ 11) : ∃ x ∈ twelve, isShort x k = true := by
  match k, hk with
  | 0, _ => exact ⟨_, by simp only [twelve]; exact List.mem_of_getElem? (i := 11) rfl, by kernel_rfl⟩
  | 1, _ => exact ⟨_, by simp only [twelve]; exact List.mem_of_getElem? (i := 0) rfl, by kernel_rfl⟩
  | 2, _ => exact ⟨_, by simp only [twelve]; exact List.mem_of_getElem? (i := 1) rfl, by kernel_rfl⟩
  | 3, _ => exact ⟨_, by simp only [twelve]; exact List.mem_of_getElem? (i := 2) rfl, by kernel_rfl⟩
  | 4, _ => exact ⟨_, by simp only [twelve]; exact List.mem_of_getElem? (i := 3) rfl, by kernel_rfl⟩
  | 5, _ => exact ⟨_, by simp only [twelve]; exact List.mem_of_getElem? (i := 4) rfl, by kernel_rfl⟩
  | 6, _ => exact ⟨_, by simp only [twelve]; exact List.mem_of_getElem? (i := 5) rfl, by kernel_rfl⟩
  | 7, _ => exact ⟨_, by simp only [twelve]; exact List.mem_of_getElem? (i := 6) rfl, by kernel_rfl⟩
  | 8, _ => exact ⟨_, by simp only [twelve]; exact List.mem_of_getElem? (i := 7) rfl, by kernel_rfl⟩
  | 9, _ => exact ⟨_, by simp only [twelve]; exact List.mem_of_getElem? (i := 8) rfl, by kernel_rfl⟩
  | 10, _ => exact ⟨_, by simp only [twelve]; exact List.mem_of_getElem? (i := 9) rfl, by kernel_rfl⟩
  | 11, _ => exact ⟨_, by simp only [twelve]; exact List.mem_of_getElem? (i := 10) rfl, by kernel_rfl⟩

theorem texts_of_twelve {W : World} {A : Nat → Addr} (h : laidMet Tryd.prog twelve W) (hr : Roots W A) :
    ∀ k, k ≤ 11 → ∃ s : ByteArray, W.cell? (A k) = some (.string s) ∧ s.size ≤ 64 := by
  intro k hk
  obtain ⟨x, hx, hs⟩ := nameOf_mem k hk
  obtain ⟨ps, hv, hn, hrows⟩ := h
  unfold isShort at hs
  simp only [Bool.and_eq_true, beq_iff_eq] at hs
  obtain ⟨s, h1, h2⟩ := text_of twelve ps hv twelve_form twelve_types hrows x hx (rootVar k) (A k) (by rw [hs.1]; exact nameOf_var k hk) (hr.var k hk)
  refine ⟨s, h1, ?_⟩
  have h3 := hs.2
  rw [h2] at h3
  have h4 : s.data.toList.length ≤ 64 := of_decide_eq_true h3
  have e : s.data.toList.length = s.size := by rw [Array.length_toList]; rfl
  omega

theorem gPow : Tryd.prog.globalNamed "internal/strconv.uint64pow10" = some 13 := by kernel_rfl
theorem gPowT : (Tryd.prog.globals[13]?).map (·.type) = some 119 := by kernel_rfl
theorem cellsPow : Tryd.prog.cellsOf 119 = 20 := by kernel_rfl
theorem cellsU64 : Tryd.prog.cellsOf 112 = 1 := by kernel_rfl
/-- The list of sixteen, as FaultMakes has it. -/
def sixteen : List (String × DataW Unit) := ("math/bits.deBruijn32tab", Rows.laid_math_bits_deBruijn32tab) :: ("math/bits.deBruijn64tab", Rows.laid_math_bits_deBruijn64tab) :: ("internal/strconv.uint64pow10", Rows.laid_internal_strconv_uint64pow10) :: thirteen
def fifteen : List (String × DataW Unit) := ("math/bits.deBruijn32tab", Rows.laid_math_bits_deBruijn32tab) :: ("math/bits.deBruijn64tab", Rows.laid_math_bits_deBruijn64tab) :: ("internal/strconv.uint64pow10", Lib.tabData .u64 Lib.pow10Tab) :: twelve
set_option maxRecDepth 100000 in
theorem texted_of_laid {W : World} (h : laidMetH Tryd.prog sixteen W) : ∃ A, Texted W A := by
  have h' : laidMet Tryd.prog fifteen W ∧ handlesMet Tryd.prog [("errors.errorType", Rows.laid_errors_errorType)] W := h
  have h12 : laidMet Tryd.prog twelve W := h'.1.tail.tail.tail
  obtain ⟨A, hA⟩ := roots_of_twelve h12
  exact ⟨A, hA, typeVar_of_handle h'.2, texts_of_twelve h12 hA, Lib.tabBelow_of_tabIs (Lib.tabIs_of_head gPow gPowT Tryd.underlying119 Tryd.underlying112 cellsU64 cellsPow h'.1.tail.tail)⟩

/-- The cells of a table's datum. -/
def flatCell (d : DataW Unit) : Value := match d with
  | .lit (.int k n) => .int k n
  | _ => .nilIface
def flat (d : DataW Unit) : List Value := match d with
  | .agg l => l.map flatCell
  | _ => []
def layCells (vs : List Value) (o : Obj) : Obj := match o with
  | .cells _ t frozen => .cells vs.toArray t frozen
  | o => o
noncomputable def laidWorld16 (os : Os) : World :=
  { laidWorld os with heap := ((((laidWorld os).heap.modify 14 (layCells (flat Rows.laid_math_bits_deBruijn32tab))).modify 15 (layCells (flat Rows.laid_math_bits_deBruijn64tab)))).modify 13 (layCells (flat Rows.laid_internal_strconv_uint64pow10)) }
end Go.Proofs.YtmbgfcanchmmpaaDoor
