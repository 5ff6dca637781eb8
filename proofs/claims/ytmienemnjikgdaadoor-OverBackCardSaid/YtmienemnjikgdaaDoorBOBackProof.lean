/- OverBack: for every rule and every two lists the law answers true; rule and lists read as they did, and memory that was there stays. The conditions are those of the given row: api's twelve errors and the library's own variables start as the program's text lays them. -/
import Derived.Test.YtmienemnjikgdaaDoorBOBackWalk
import Derived.Test.YtmienemnjikgdaaDoorB6
import Derived.Test.YtmienemnjikgdaaDoorB5
namespace Go.Proofs.YtmienemnjikgdaaDoor.lOBack
open Go.ChangeShapes Go.WideShapes Go.ChangeAt Go.RowKit
open Go.ChangeMaps (open_string shut_string)

theorem params_carry (t : TypeId) (h : t ∈ [24, 22, 22]) : Carries t := by
  simp only [List.mem_cons, List.not_mem_nil, or_false] at h
  rcases h with rfl | rfl | rfl
  · exact ⟨by kernel_rfl, of_decide_eq_true (by kernel_rfl)⟩
  · exact ⟨by kernel_rfl, of_decide_eq_true (by kernel_rfl)⟩
  · exact ⟨by kernel_rfl, of_decide_eq_true (by kernel_rfl)⟩
theorem params_all : ∀ t ∈ Tryd.f6.params.toList, Carries t := by
  rw [Tryd.params6]
  intro t ht
  exact params_carry t (by simpa using ht)

set_option maxRecDepth 100000 in
theorem contract (H : Type) (enc : TypeId × Value → H) (W : World) (base : Nat) (args : Array Value) (ds gs : List (DataW H)) (before : List MemPlace)
    (hval : ∀ (j : Nat) t v, Tryd.f6.params[j]? = some t → args[j]? = some v → Value.okWide Tryd.prog W .any base t v)
    (hW : DataW.Whole enc Tryd.prog Tryd.f6.params.toList Rows.overBackSpec.vars false W args.toList ds gs before) (hL : laidMetH Tryd.prog Rows.overBackRow.laid W)
    (hsz : (DataW.weightsEach Tryd.prog (Tryd.f6.params.toList ++ []) (ds ++ gs)).all (· ≤ reachBytes) = true) :
    Calls Tryd.prog 6 args W fun e W' => ∃ v, e = .returned v ∧ Rows.overBackSpec.post enc Tryd.prog Tryd.f6 false true false false W args v W' := by
  have hW' := hW
  have hlt : ∀ x ∈ before, x.block < W.heap.size := fun x hx => by simpa using hW'.lt x hx
  obtain ⟨p, q, hA0, hV, rfl, hfz, hnd⟩ := hW
  have hA : DataW.TrodAll enc Tryd.prog W 0 (fun _ => true) true Tryd.f6.params.toList args.toList ds p := hA0
  rw [Tryd.params6] at hA hval hsz
  obtain ⟨v0, vs0, d0, ds0, p0, q0, hargs, rfl, rfl, h0, r0⟩ := trodAll_cons hA
  obtain ⟨v1, vs1, d1, ds1, p1, q1, rfl, rfl, rfl, h1, r1⟩ := trodAll_cons r0
  obtain ⟨v2, vs2, d2, ds2, p2, q2, rfl, rfl, rfl, h2, r2⟩ := trodAll_cons r1
  obtain ⟨rfl, rfl, rfl⟩ := trodAll_nil r2
  obtain rfl : args = #[v0, v1, v2] := by cases args; simp_all
  obtain ⟨rfl, rfl⟩ := trodVars_none hV
  clear hA0
  simp only [List.append_nil] at hW' hlt
  have fin : ∀ W' : World, Below W.heap.size W W' → Rows.overBackSpec.post enc Tryd.prog Tryd.f6 false true false false W #[v0, v1, v2] (.bool true) W' := fun W' hb =>
    law_post (args := #[v0, v1, v2]) (ds := [d0, d1, d2]) (gs := []) Rows.overBackSpec Tryd.f6 (by kernel_rfl) rfl rfl params_all hW' hb
  obtain ⟨k0, r0r, x0, c0, l0, hv0, hx0, hl0⟩ := open_rule (hval 0 24 v0 rfl rfl) h0 (fun x hx => hlt x (by simp [hx])) (fun x hx => by simpa using List.all_eq_true.1 hsz x (weights_get _ _ 0 _ _ rfl rfl x hx))
  obtain ⟨x1, c1, l1, hv1, hx1, hw1⟩ := open_intl (okWide_slice Tryd.underlying22 (hval 1 22 v1 rfl rfl)) h1 (fun x hx => hlt x (by simp [hx]))
  obtain ⟨x2, c2, l2, hv2, hx2, hw2⟩ := open_intl (okWide_slice Tryd.underlying22 (hval 2 22 v2 rfl rfl)) h2 (fun x hx => hlt x (by simp [hx]))
  obtain ⟨A, hr⟩ := roots_of_twelve (W := W) hL
  subst hv0 hv1 hv2
  cases hc : chkV k0 r0r l0 l1 256 with
  | some y =>
    refine (back_bad k0 r0r x0 x1 x2 l0.length c0 l1.length c1 l2.length c2 l0 l1 W A hr rfl rfl hx0 hx1 y.1 y.2 hc).mono fun e W' ⟨he, hb⟩ => ?_
    exact ⟨_, he, fin W' hb⟩
  | none =>
    obtain ⟨K, R, rfl, rfl, ho, h256, hw⟩ := chkV_none hc
    refine (back_ok K R x0 x1 x2 l0.length c0 l1.length c1 l2.length c2 l0 l1 l2 W A hr rfl rfl rfl hx0 hx1 hx2 ho h256 hw).mono fun e W' ⟨he, hb⟩ => ?_
    exact ⟨_, he, fin W' hb⟩

theorem laid_met (os : Os) : laidMetH Tryd.prog Rows.overBackRow.laid ((laidWorld os).forCall (fun _ _ => 0) ⟨#[], #[Value.agg #[.int .i64 0, .int .i64 0, .slice none 0 0], Value.slice none 0 0, Value.slice none 0 0], []⟩).memory :=
  laidMetH_of_parts (laidMet_of_run' 8 (by kernel_rfl) (by kernel_rfl)) (by kernel_rfl)
theorem reads (os : Os) {H : Type} (enc : TypeId × Value → H) : ∃ places, DataW.whole enc Tryd.prog ((laidWorld os).forCall (fun _ _ => 0) ⟨#[], #[Value.agg #[.int .i64 0, .int .i64 0, .slice none 0 0], Value.slice none 0 0, Value.slice none 0 0], []⟩).memory Tryd.f6.params.toList Rows.overBackSpec.vars false #[Value.agg #[.int .i64 0, .int .i64 0, .slice none 0 0], Value.slice none 0 0, Value.slice none 0 0].toList 8 = some ([.agg [.lit (.int .i64 0), .lit (.int .i64 0), .nil], .nil, .nil], [], places) :=
  ⟨[], by kernel_rfl⟩

set_option maxRecDepth 100000 in
theorem lifted (os : Os) (started : os.Started) (H : Type) (enc : TypeId × Value → H) (F : Stop.Interp) :
    ReturnsInHanded {} Tryd.checked os 6 .any ((OpenSpec.ofChange Rows.overBackSpec).preRow enc Tryd.prog Tryd.f6 Rows.overBackRow.domain false Rows.overBackRow.laid) (((OpenSpec.ofChange Rows.overBackSpec).at F).post enc Tryd.prog Tryd.f6 false true false false) := by
  obtain ⟨places, hx⟩ := reads os enc
  refine returnsInHanded_of_row (C := Tryd.checked) (s := OpenSpec.ofChange Rows.overBackSpec) own started (by kernel_rfl) Tryd.func6
    (witness_row_atRef (enc := enc) (C := Tryd.checked) false (laidWorld os) #[Value.agg #[.int .i64 0, .int .i64 0, .slice none 0 0], Value.slice none 0 0, Value.slice none 0 0] rfl (by kernel_rfl) (by kernel_rfl) (by kernel_rfl)
      (OpenSpec.preRow_of_cond 8 hx (by kernel_rfl) (fun k hk => by cases hk) (by kernel_rfl) (laid_met os))) ?_
  intro W base args ds gs before hval hW _ _ hsz hL _ _
  exact contract H enc W base args ds gs before hval hW hL hsz

theorem said : Rows.OverBackSaid :=
  OpenClaim.holds_of_cond 6 Tryd.f6 rfl rfl rfl rfl rfl rfl rfl ⟨rfl, rfl, rfl, rfl, rfl⟩ rfl rfl rfl rfl rfl (by kernel_rfl) Tryd.func6 (by kernel_rfl)
    (of_decide_eq_true (by kernel_rfl)) (by unfold Func.isWrapper; first | (rw [if_pos (by decide +kernel)]; kernel_rfl) | (rw [if_neg (by decide +kernel)]; exact ⟨rfl, rfl⟩))
    (fun os started H enc _ F => by rw [OpenClaim.pre_eq_preRow]; exact lifted os started H enc F)

theorem plain (f : FuncId) (fn : Func) (hf : Tryd.pinned.checked.prog.funcNamed "eden/edenlaw08.OverBack" = some f) (hfn : Tryd.pinned.checked.prog.funcs[f]? = some fn) :
    true = Tryd.pinned.checked.prog.looks [] ∧ ∀ (j : Nat) t, fn.params[j]? = some t → Tryd.pinned.checked.prog.wantsStandIn t = false := by
  obtain rfl : f = 6 := Option.some.inj ((show Tryd.prog.funcNamed "eden/edenlaw08.OverBack" = some 6 by kernel_rfl).symm.trans hf) |>.symm
  obtain rfl : fn = Tryd.f6 := (Option.some.inj (Tryd.func6.symm.trans hfn)).symm
  refine ⟨by kernel_rfl, fun j t ht => ?_⟩
  rw [Tryd.params6] at ht
  have hm : t ∈ [24, 22, 22] := by simpa using Array.mem_of_getElem? ht
  have hall : ([24, 22, 22].all fun u => !Tryd.prog.wantsStandIn u) = true := by kernel_rfl
  exact (show Tryd.prog.wantsStandIn t = false by simpa using List.all_eq_true.1 hall t hm)

/-- The tied card. -/
theorem card : Rows.OverBackCardSaid :=
  Claim7.holds_tied_plain_at .later [] _ _ _ _ said (fun _ h => by cases h) (by kernel_rfl) (fun _ h => by cases h) overBack_row_tie rfl ⟨rfl, rfl⟩ (by kernel_rfl) rfl plain (by kernel_rfl)

end Go.Proofs.YtmienemnjikgdaaDoor.lOBack
