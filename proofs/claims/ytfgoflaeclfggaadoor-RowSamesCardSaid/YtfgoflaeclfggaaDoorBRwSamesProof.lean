/- RowSames: for every number, every two rows and every number the law answers true; the rows read as they did, and memory that was there stays. The conditions are those of the given row: api's twelve errors and the library's own variables start as the program's text lays them. -/
import Derived.Test.YtfgoflaeclfggaaDoorBRwSamesWalk
import Derived.Test.YtfgoflaeclfggaaDoorB4
import Derived.Test.YtfgoflaeclfggaaDoorB6
namespace Go.Proofs.YtfgoflaeclfggaaDoor.lRwSames
open Go.ChangeShapes Go.WideShapes Go.ChangeAt Go.RowKit
open Go.ChangeMaps (open_string shut_string)

theorem params_carry (t : TypeId) (h : t ∈ [3, 24, 24, 3]) : Carries t := by
  simp only [List.mem_cons, List.not_mem_nil, or_false] at h
  rcases h with rfl | rfl | rfl | rfl
  · exact ⟨by kernel_rfl, of_decide_eq_true (by kernel_rfl)⟩
  · exact ⟨by kernel_rfl, of_decide_eq_true (by kernel_rfl)⟩
  · exact ⟨by kernel_rfl, of_decide_eq_true (by kernel_rfl)⟩
  · exact ⟨by kernel_rfl, of_decide_eq_true (by kernel_rfl)⟩
theorem params_all : ∀ t ∈ Tryd.f4.params.toList, Carries t := by
  rw [Tryd.params4]
  intro t ht
  exact params_carry t (by simpa using ht)

set_option maxRecDepth 100000 in
theorem contract (H : Type) (enc : TypeId × Value → H) (W : World) (base : Nat) (args : Array Value) (ds gs : List (DataW H)) (before : List MemPlace)
    (hval : ∀ (j : Nat) t v, Tryd.f4.params[j]? = some t → args[j]? = some v → Value.okWide Tryd.prog W .any base t v)
    (hW : DataW.Whole enc Tryd.prog Tryd.f4.params.toList Rows.rowSamesSpec.vars false W args.toList ds gs before) (hL : laidMetH Tryd.prog Rows.rowSamesRow.laid W)
    (hsz : (DataW.weightsEach Tryd.prog (Tryd.f4.params.toList ++ []) (ds ++ gs)).all (· ≤ reachBytes) = true) :
    Calls Tryd.prog 4 args W fun e W' => ∃ v, e = .returned v ∧ Rows.rowSamesSpec.post enc Tryd.prog Tryd.f4 false true false false W args v W' := by
  have hW' := hW
  have hlt : ∀ x ∈ before, x.block < W.heap.size := fun x hx => by simpa using hW'.lt x hx
  obtain ⟨p, q, hA0, hV, rfl, hfz, hnd⟩ := hW
  have hA : DataW.TrodAll enc Tryd.prog W 0 (fun _ => true) true Tryd.f4.params.toList args.toList ds p := hA0
  rw [Tryd.params4] at hA hval hsz
  obtain ⟨v0, vs0, d0, ds0, p0, q0, hargs, rfl, rfl, h0, r0⟩ := trodAll_cons hA
  obtain ⟨v1, vs1, d1, ds1, p1, q1, rfl, rfl, rfl, h1, r1⟩ := trodAll_cons r0
  obtain ⟨v2, vs2, d2, ds2, p2, q2, rfl, rfl, rfl, h2, r2⟩ := trodAll_cons r1
  obtain ⟨v3, vs3, d3, ds3, p3, q3, rfl, rfl, rfl, h3, r3⟩ := trodAll_cons r2
  obtain ⟨rfl, rfl, rfl⟩ := trodAll_nil r3
  obtain rfl : args = #[v0, v1, v2, v3] := by cases args; simp_all
  obtain ⟨rfl, rfl⟩ := trodVars_none hV
  clear hA0
  simp only [List.append_nil] at hW' hlt
  have fin : ∀ W' : World, Below W.heap.size W W' → Rows.rowSamesSpec.post enc Tryd.prog Tryd.f4 false true false false W #[v0, v1, v2, v3] (.bool true) W' := fun W' hb =>
    law_post (args := #[v0, v1, v2, v3]) (ds := [d0, d1, d2, d3]) (gs := []) Rows.rowSamesSpec Tryd.f4 (by kernel_rfl) rfl rfl params_all hW' hb
  obtain ⟨x0, hv0, hd0, _, wx0⟩ := open_int Tryd.underlying3 (hval 0 3 v0 rfl rfl) h0
  obtain ⟨a1, p1w, q1w, s1w, c1, e1, f1, L1, C1, R1, hv1, hx1, hL1, hC1, hR1, ha1, hb1⟩ := open_row (hval 1 24 v1 rfl rfl) h1 (fun x hx => hlt x (by simp [hx])) (fun x hx => by simpa using List.all_eq_true.1 hsz x (weights_get _ _ 1 _ _ rfl rfl x hx))
  obtain ⟨a2, p2w, q2w, s2w, c2, e2, f2, L2, C2, R2, hv2, hx2, hL2, hC2, hR2, ha2, hb2⟩ := open_row (hval 2 24 v2 rfl rfl) h2 (fun x hx => hlt x (by simp [hx])) (fun x hx => by simpa using List.all_eq_true.1 hsz x (weights_get _ _ 2 _ _ rfl rfl x hx))
  obtain ⟨x3, hv3, hd3, _, wx3⟩ := open_int Tryd.underlying3 (hval 3 3 v3 rfl rfl) h3
  obtain ⟨A, hr, hT⟩ := roots_of_laid (W := W) hL
  subst hv0 hv1 hv2 hv3 hd0 hd3
  cases hc : chkE x0 a1 L1 C1 R1 a2 L2 C2 R2 with
  | some y =>
    refine (rsames_bad x0 a1 a2 x3 p1w q1w s1w p2w q2w s2w L1.length c1 C1.length e1 R1.length f1 L2.length c2 C2.length e2 R2.length f2 L1 C1 R1 L2 C2 R2 W A hr hT hx1 hx2 hL1 hC1 hR1 hL2 hC2 hR2 y hc).mono fun e W' ⟨he, hb⟩ => ?_
    exact ⟨_, he, fin W' hb⟩
  | none =>
    obtain ⟨g1, g2⟩ := chkE_none hc
    obtain ⟨K, rfl, hw1⟩ := RuleM.chkRw_none g1
    obtain ⟨K', hK, hw2⟩ := RuleM.chkRw_none g2
    obtain rfl : K = K' := by omega
    by_cases ho : RuleM.OneR a1 L1 C1 R1 a2 L2 C2 R2
    · have hB : true = true ↔ RuleM.OneR a1 L1 C1 R1 a2 L2 C2 R2 := ⟨fun _ => ho, fun _ => rfl⟩
      by_cases z1 : a1 - (L1.length : Int) < -4096
      · refine (rsames_t1 K a1 a2 x3 p1w q1w s1w p2w q2w s2w L1.length c1 C1.length e1 R1.length f1 L2.length c2 C2.length e2 R2.length f2 L1 C1 R1 L2 C2 R2 W A hr hT hx1 hx2 hw1 hw2 hB z1).mono fun e W' ⟨he, hb⟩ => ?_
        exact ⟨_, he, fin W' hb⟩
      · by_cases z2 : 16384 < (C1.length : Int) + (L1.length : Int) + (R1.length : Int)
        · refine (rsames_t2 K a1 a2 x3 p1w q1w s1w p2w q2w s2w L1.length c1 C1.length e1 R1.length f1 L2.length c2 C2.length e2 R2.length f2 L1 C1 R1 L2 C2 R2 W A hr hT hx1 hx2 hw1 hw2 hB z1 z2).mono fun e W' ⟨he, hb⟩ => ?_
          exact ⟨_, he, fin W' hb⟩
        · refine (rsames_t3 K a1 a2 x3 p1w q1w s1w p2w q2w s2w L1.length c1 C1.length e1 R1.length f1 L2.length c2 C2.length e2 R2.length f2 L1 C1 R1 L2 C2 R2 W A hr hT hx1 hx2 hw1 hw2 hB z1 z2).mono fun e W' ⟨he, hb⟩ => ?_
          exact ⟨_, he, fin W' hb⟩
    · have hB : false = true ↔ RuleM.OneR a1 L1 C1 R1 a2 L2 C2 R2 := ⟨fun h => (by cases h), fun h => absurd h ho⟩
      by_cases z1 : a1 - (L1.length : Int) < -4096
      · refine (rsames_f1 K a1 a2 x3 p1w q1w s1w p2w q2w s2w L1.length c1 C1.length e1 R1.length f1 L2.length c2 C2.length e2 R2.length f2 L1 C1 R1 L2 C2 R2 W A hr hT hx1 hx2 hw1 hw2 hB z1).mono fun e W' ⟨he, hb⟩ => ?_
        exact ⟨_, he, fin W' hb⟩
      · by_cases z2 : 16384 < (C1.length : Int) + (L1.length : Int) + (R1.length : Int)
        · refine (rsames_f2 K a1 a2 x3 p1w q1w s1w p2w q2w s2w L1.length c1 C1.length e1 R1.length f1 L2.length c2 C2.length e2 R2.length f2 L1 C1 R1 L2 C2 R2 W A hr hT hx1 hx2 hw1 hw2 hB z1 z2).mono fun e W' ⟨he, hb⟩ => ?_
          exact ⟨_, he, fin W' hb⟩
        · refine (rsames_f3 K a1 a2 x3 p1w q1w s1w p2w q2w s2w L1.length c1 C1.length e1 R1.length f1 L2.length c2 C2.length e2 R2.length f2 L1 C1 R1 L2 C2 R2 W A hr hT hx1 hx2 hw1 hw2 hB z1 z2).mono fun e W' ⟨he, hb⟩ => ?_
          exact ⟨_, he, fin W' hb⟩

theorem laid_met (os : Os) : laidMetH Tryd.prog Rows.rowSamesRow.laid ((laidWorld os).forCall (fun _ _ => 0) ⟨#[], #[Value.int .i64 0, Value.agg #[.int .i64 0, .slice none 0 0, .slice none 0 0, .slice none 0 0], Value.agg #[.int .i64 0, .slice none 0 0, .slice none 0 0, .slice none 0 0], Value.int .i64 0], []⟩).memory :=
  laidMetH_of_parts (laidMet_of_run' 8 (by kernel_rfl) (by kernel_rfl)) (by kernel_rfl)
theorem reads (os : Os) {H : Type} (enc : TypeId × Value → H) : ∃ places, DataW.whole enc Tryd.prog ((laidWorld os).forCall (fun _ _ => 0) ⟨#[], #[Value.int .i64 0, Value.agg #[.int .i64 0, .slice none 0 0, .slice none 0 0, .slice none 0 0], Value.agg #[.int .i64 0, .slice none 0 0, .slice none 0 0, .slice none 0 0], Value.int .i64 0], []⟩).memory Tryd.f4.params.toList Rows.rowSamesSpec.vars false #[Value.int .i64 0, Value.agg #[.int .i64 0, .slice none 0 0, .slice none 0 0, .slice none 0 0], Value.agg #[.int .i64 0, .slice none 0 0, .slice none 0 0, .slice none 0 0], Value.int .i64 0].toList 8 = some ([.lit (.int .i64 0), .agg [.lit (.int .i64 0), .nil, .nil, .nil], .agg [.lit (.int .i64 0), .nil, .nil, .nil], .lit (.int .i64 0)], [], places) :=
  ⟨[], by kernel_rfl⟩

set_option maxRecDepth 100000 in
theorem lifted (os : Os) (started : os.Started) (H : Type) (enc : TypeId × Value → H) (F : Stop.Interp) :
    ReturnsInHanded {} Tryd.checked os 4 .any ((OpenSpec.ofChange Rows.rowSamesSpec).preRow enc Tryd.prog Tryd.f4 Rows.rowSamesRow.domain false Rows.rowSamesRow.laid) (((OpenSpec.ofChange Rows.rowSamesSpec).at F).post enc Tryd.prog Tryd.f4 false true false false) := by
  obtain ⟨places, hx⟩ := reads os enc
  refine returnsInHanded_of_row (C := Tryd.checked) (s := OpenSpec.ofChange Rows.rowSamesSpec) own started (by kernel_rfl) Tryd.func4
    (witness_row_atRef (enc := enc) (C := Tryd.checked) false (laidWorld os) #[Value.int .i64 0, Value.agg #[.int .i64 0, .slice none 0 0, .slice none 0 0, .slice none 0 0], Value.agg #[.int .i64 0, .slice none 0 0, .slice none 0 0, .slice none 0 0], Value.int .i64 0] rfl (by kernel_rfl) (by kernel_rfl) (by kernel_rfl)
      (OpenSpec.preRow_of_cond 8 hx (by kernel_rfl) (fun k hk => by cases hk) (by kernel_rfl) (laid_met os))) ?_
  intro W base args ds gs before hval hW _ _ hsz hL _ _
  exact contract H enc W base args ds gs before hval hW hL hsz

theorem said : Rows.RowSamesSaid :=
  OpenClaim.holds_of_cond 4 Tryd.f4 rfl rfl rfl rfl rfl rfl rfl ⟨rfl, rfl, rfl, rfl, rfl⟩ rfl rfl rfl rfl rfl (by kernel_rfl) Tryd.func4 (by kernel_rfl)
    (of_decide_eq_true (by kernel_rfl)) (by unfold Func.isWrapper; first | (rw [if_pos (by decide +kernel)]; kernel_rfl) | (rw [if_neg (by decide +kernel)]; exact ⟨rfl, rfl⟩))
    (fun os started H enc _ F => by rw [OpenClaim.pre_eq_preRow]; exact lifted os started H enc F)

theorem plain (f : FuncId) (fn : Func) (hf : Tryd.pinned.checked.prog.funcNamed "eden/edenlaw07.RowSames" = some f) (hfn : Tryd.pinned.checked.prog.funcs[f]? = some fn) :
    true = Tryd.pinned.checked.prog.looks [] ∧ ∀ (j : Nat) t, fn.params[j]? = some t → Tryd.pinned.checked.prog.wantsStandIn t = false := by
  obtain rfl : f = 4 := Option.some.inj ((show Tryd.prog.funcNamed "eden/edenlaw07.RowSames" = some 4 by kernel_rfl).symm.trans hf) |>.symm
  obtain rfl : fn = Tryd.f4 := (Option.some.inj (Tryd.func4.symm.trans hfn)).symm
  refine ⟨by kernel_rfl, fun j t ht => ?_⟩
  rw [Tryd.params4] at ht
  have hm : t ∈ [3, 24, 24, 3] := by simpa using Array.mem_of_getElem? ht
  have hall : ([3, 24, 24, 3].all fun u => !Tryd.prog.wantsStandIn u) = true := by kernel_rfl
  exact (show Tryd.prog.wantsStandIn t = false by simpa using List.all_eq_true.1 hall t hm)

/-- The tied card. -/
theorem card : Rows.RowSamesCardSaid :=
  Claim7.holds_tied_plain_at .later [] _ _ _ _ said (fun _ h => by cases h) (by kernel_rfl) (fun _ h => by cases h) rowSames_row_tie rfl ⟨rfl, rfl⟩ (by kernel_rfl) rfl plain (by kernel_rfl)

end Go.Proofs.YtfgoflaeclfggaaDoor.lRwSames
