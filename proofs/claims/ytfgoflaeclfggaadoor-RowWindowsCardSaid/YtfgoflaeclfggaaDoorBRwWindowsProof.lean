/- RowWindows: for every rule, every two rows and every number the law answers true; rule and rows read as they did, and memory that was there stays. The conditions are those of the given row: api's twelve errors and the library's own variables start as the program's text lays them. -/
import Derived.Test.YtfgoflaeclfggaaDoorBRwWindowsWalk
import Derived.Test.YtfgoflaeclfggaaDoorB4
import Derived.Test.YtfgoflaeclfggaaDoorB6
namespace Go.Proofs.YtfgoflaeclfggaaDoor.lRwWindows
open Go.ChangeShapes Go.WideShapes Go.ChangeAt Go.RowKit
open Go.ChangeMaps (open_string shut_string)

theorem params_carry (t : TypeId) (h : t ∈ [53, 24, 24, 3]) : Carries t := by
  simp only [List.mem_cons, List.not_mem_nil, or_false] at h
  rcases h with rfl | rfl | rfl | rfl
  · exact ⟨by kernel_rfl, of_decide_eq_true (by kernel_rfl)⟩
  · exact ⟨by kernel_rfl, of_decide_eq_true (by kernel_rfl)⟩
  · exact ⟨by kernel_rfl, of_decide_eq_true (by kernel_rfl)⟩
  · exact ⟨by kernel_rfl, of_decide_eq_true (by kernel_rfl)⟩
theorem params_all : ∀ t ∈ Tryd.f6.params.toList, Carries t := by
  rw [Tryd.params6]
  intro t ht
  exact params_carry t (by simpa using ht)

set_option maxRecDepth 100000 in
theorem contract (H : Type) (enc : TypeId × Value → H) (W : World) (base : Nat) (args : Array Value) (ds gs : List (DataW H)) (before : List MemPlace)
    (hval : ∀ (j : Nat) t v, Tryd.f6.params[j]? = some t → args[j]? = some v → Value.okWide Tryd.prog W .any base t v)
    (hW : DataW.Whole enc Tryd.prog Tryd.f6.params.toList Rows.rowWindowsSpec.vars false W args.toList ds gs before) (hL : laidMetH Tryd.prog Rows.rowWindowsRow.laid W)
    (hsz : (DataW.weightsEach Tryd.prog (Tryd.f6.params.toList ++ []) (ds ++ gs)).all (· ≤ reachBytes) = true) :
    Calls Tryd.prog 6 args W fun e W' => ∃ v, e = .returned v ∧ Rows.rowWindowsSpec.post enc Tryd.prog Tryd.f6 false true false false W args v W' := by
  have hW' := hW
  have hlt : ∀ x ∈ before, x.block < W.heap.size := fun x hx => by simpa using hW'.lt x hx
  obtain ⟨p, q, hA0, hV, rfl, hfz, hnd⟩ := hW
  have hA : DataW.TrodAll enc Tryd.prog W 0 (fun _ => true) true Tryd.f6.params.toList args.toList ds p := hA0
  rw [Tryd.params6] at hA hval hsz
  obtain ⟨v0, vs0, d0, ds0, p0, q0, hargs, rfl, rfl, h0, r0⟩ := trodAll_cons hA
  obtain ⟨v1, vs1, d1, ds1, p1, q1, rfl, rfl, rfl, h1, r1⟩ := trodAll_cons r0
  obtain ⟨v2, vs2, d2, ds2, p2, q2, rfl, rfl, rfl, h2, r2⟩ := trodAll_cons r1
  obtain ⟨v3, vs3, d3, ds3, p3, q3, rfl, rfl, rfl, h3, r3⟩ := trodAll_cons r2
  obtain ⟨rfl, rfl, rfl⟩ := trodAll_nil r3
  obtain rfl : args = #[v0, v1, v2, v3] := by cases args; simp_all
  obtain ⟨rfl, rfl⟩ := trodVars_none hV
  clear hA0
  simp only [List.append_nil] at hW' hlt
  have fin : ∀ W' : World, Below W.heap.size W W' → Rows.rowWindowsSpec.post enc Tryd.prog Tryd.f6 false true false false W #[v0, v1, v2, v3] (.bool true) W' := fun W' hb =>
    law_post (args := #[v0, v1, v2, v3]) (ds := [d0, d1, d2, d3]) (gs := []) Rows.rowWindowsSpec Tryd.f6 (by kernel_rfl) rfl rfl params_all hW' hb
  obtain ⟨k0, r0r, x0, c0, l0, hv0, hx0, hl0⟩ := open_rule (hval 0 53 v0 rfl rfl) h0 (fun x hx => hlt x (by simp [hx])) (fun x hx => by simpa using List.all_eq_true.1 hsz x (weights_get _ _ 0 _ _ rfl rfl x hx))
  obtain ⟨a1, p1w, q1w, s1w, c1, e1, f1, L1, C1, R1, hv1, hx1, hL1, hC1, hR1, ha1, hb1⟩ := open_row (hval 1 24 v1 rfl rfl) h1 (fun x hx => hlt x (by simp [hx])) (fun x hx => by simpa using List.all_eq_true.1 hsz x (weights_get _ _ 1 _ _ rfl rfl x hx))
  obtain ⟨a2, p2w, q2w, s2w, c2, e2, f2, L2, C2, R2, hv2, hx2, hL2, hC2, hR2, ha2, hb2⟩ := open_row (hval 2 24 v2 rfl rfl) h2 (fun x hx => hlt x (by simp [hx])) (fun x hx => by simpa using List.all_eq_true.1 hsz x (weights_get _ _ 2 _ _ rfl rfl x hx))
  obtain ⟨x3, hv3, hd3, _, wx3⟩ := open_int Tryd.underlying3 (hval 3 3 v3 rfl rfl) h3
  obtain ⟨A, hr⟩ := roots_of_twelve (W := W) hL
  subst hv0 hv1 hv2 hv3 hd3
  cases hc : chkZ k0 r0r l0 a1 L1 C1 R1 with
  | some y =>
    refine (rwin_bad k0 r0r a1 a2 x3 x0 l0.length c0 l0 p1w q1w s1w L1.length c1 C1.length e1 R1.length f1 L1 C1 R1 p2w q2w s2w L2.length c2 C2.length e2 R2.length f2 W A hr rfl hx0 hx1 hL1 hC1 hR1 y.1 y.2 hc).mono fun e W' ⟨he, hb⟩ => ?_
    exact ⟨_, he, fin W' hb⟩
  | none =>
    obtain ⟨K, S, rfl, rfl, ho, hw, ha, hcc⟩ := chkZ_none hc
    cases hc2 : chkZ (K : Int) (S : Int) l0 a2 L2 C2 R2 with
    | some y =>
      refine (rwin_half K S a1 a2 x3 x0 l0.length c0 l0 p1w q1w s1w L1.length c1 C1.length e1 R1.length f1 L1 C1 R1 p2w q2w s2w L2.length c2 C2.length e2 R2.length f2 L2 C2 R2 W A hr rfl hx0 hx1 hx2 hL2 hC2 hR2 ho hw ha hcc y.1 y.2 hc2).mono fun e W' ⟨he, hb⟩ => ?_
      exact ⟨_, he, fin W' hb⟩
    | none =>
      obtain ⟨K', S', hK, hS, _, hw2, ha2, hcc2⟩ := chkZ_none hc2
      obtain rfl : K = K' := by omega
      obtain rfl : S = S' := by omega
      refine (rwin_ok K S a1 a2 x3 x0 l0.length c0 l0 p1w q1w s1w L1.length c1 C1.length e1 R1.length f1 L1 C1 R1 p2w q2w s2w L2.length c2 C2.length e2 R2.length f2 L2 C2 R2 W A hr rfl hx0 hx1 hx2 ho hw ha hcc hw2 ha2 hcc2).mono fun e W' ⟨he, hb⟩ => ?_
      exact ⟨_, he, fin W' hb⟩

theorem laid_met (os : Os) : laidMetH Tryd.prog Rows.rowWindowsRow.laid ((laidWorld os).forCall (fun _ _ => 0) ⟨#[], #[Value.agg #[.int .i64 0, .int .i64 0, .slice none 0 0], Value.agg #[.int .i64 0, .slice none 0 0, .slice none 0 0, .slice none 0 0], Value.agg #[.int .i64 0, .slice none 0 0, .slice none 0 0, .slice none 0 0], Value.int .i64 0], []⟩).memory :=
  laidMetH_of_parts (laidMet_of_run' 8 (by kernel_rfl) (by kernel_rfl)) (by kernel_rfl)
theorem reads (os : Os) {H : Type} (enc : TypeId × Value → H) : ∃ places, DataW.whole enc Tryd.prog ((laidWorld os).forCall (fun _ _ => 0) ⟨#[], #[Value.agg #[.int .i64 0, .int .i64 0, .slice none 0 0], Value.agg #[.int .i64 0, .slice none 0 0, .slice none 0 0, .slice none 0 0], Value.agg #[.int .i64 0, .slice none 0 0, .slice none 0 0, .slice none 0 0], Value.int .i64 0], []⟩).memory Tryd.f6.params.toList Rows.rowWindowsSpec.vars false #[Value.agg #[.int .i64 0, .int .i64 0, .slice none 0 0], Value.agg #[.int .i64 0, .slice none 0 0, .slice none 0 0, .slice none 0 0], Value.agg #[.int .i64 0, .slice none 0 0, .slice none 0 0, .slice none 0 0], Value.int .i64 0].toList 8 = some ([.agg [.lit (.int .i64 0), .lit (.int .i64 0), .nil], .agg [.lit (.int .i64 0), .nil, .nil, .nil], .agg [.lit (.int .i64 0), .nil, .nil, .nil], .lit (.int .i64 0)], [], places) :=
  ⟨[], by kernel_rfl⟩

set_option maxRecDepth 100000 in
theorem lifted (os : Os) (started : os.Started) (H : Type) (enc : TypeId × Value → H) (F : Stop.Interp) :
    ReturnsInHanded {} Tryd.checked os 6 .any ((OpenSpec.ofChange Rows.rowWindowsSpec).preRow enc Tryd.prog Tryd.f6 Rows.rowWindowsRow.domain false Rows.rowWindowsRow.laid) (((OpenSpec.ofChange Rows.rowWindowsSpec).at F).post enc Tryd.prog Tryd.f6 false true false false) := by
  obtain ⟨places, hx⟩ := reads os enc
  refine returnsInHanded_of_row (C := Tryd.checked) (s := OpenSpec.ofChange Rows.rowWindowsSpec) own started (by kernel_rfl) Tryd.func6
    (witness_row_atRef (enc := enc) (C := Tryd.checked) false (laidWorld os) #[Value.agg #[.int .i64 0, .int .i64 0, .slice none 0 0], Value.agg #[.int .i64 0, .slice none 0 0, .slice none 0 0, .slice none 0 0], Value.agg #[.int .i64 0, .slice none 0 0, .slice none 0 0, .slice none 0 0], Value.int .i64 0] rfl (by kernel_rfl) (by kernel_rfl) (by kernel_rfl)
      (OpenSpec.preRow_of_cond 8 hx (by kernel_rfl) (fun k hk => by cases hk) (by kernel_rfl) (laid_met os))) ?_
  intro W base args ds gs before hval hW _ _ hsz hL _ _
  exact contract H enc W base args ds gs before hval hW hL hsz

theorem said : Rows.RowWindowsSaid :=
  OpenClaim.holds_of_cond 6 Tryd.f6 rfl rfl rfl rfl rfl rfl rfl ⟨rfl, rfl, rfl, rfl, rfl⟩ rfl rfl rfl rfl rfl (by kernel_rfl) Tryd.func6 (by kernel_rfl)
    (of_decide_eq_true (by kernel_rfl)) (by unfold Func.isWrapper; first | (rw [if_pos (by decide +kernel)]; kernel_rfl) | (rw [if_neg (by decide +kernel)]; exact ⟨rfl, rfl⟩))
    (fun os started H enc _ F => by rw [OpenClaim.pre_eq_preRow]; exact lifted os started H enc F)

theorem plain (f : FuncId) (fn : Func) (hf : Tryd.pinned.checked.prog.funcNamed "eden/edenlaw07.RowWindows" = some f) (hfn : Tryd.pinned.checked.prog.funcs[f]? = some fn) :
    true = Tryd.pinned.checked.prog.looks [] ∧ ∀ (j : Nat) t, fn.params[j]? = some t → Tryd.pinned.checked.prog.wantsStandIn t = false := by
  obtain rfl : f = 6 := Option.some.inj ((show Tryd.prog.funcNamed "eden/edenlaw07.RowWindows" = some 6 by kernel_rfl).symm.trans hf) |>.symm
  obtain rfl : fn = Tryd.f6 := (Option.some.inj (Tryd.func6.symm.trans hfn)).symm
  refine ⟨by kernel_rfl, fun j t ht => ?_⟩
  rw [Tryd.params6] at ht
  have hm : t ∈ [53, 24, 24, 3] := by simpa using Array.mem_of_getElem? ht
  have hall : ([53, 24, 24, 3].all fun u => !Tryd.prog.wantsStandIn u) = true := by kernel_rfl
  exact (show Tryd.prog.wantsStandIn t = false by simpa using List.all_eq_true.1 hall t hm)

/-- The tied card. -/
theorem card : Rows.RowWindowsCardSaid :=
  Claim7.holds_tied_plain_at .later [] _ _ _ _ said (fun _ h => by cases h) (by kernel_rfl) (fun _ h => by cases h) rowWindows_row_tie rfl ⟨rfl, rfl⟩ (by kernel_rfl) rfl plain (by kernel_rfl)

end Go.Proofs.YtfgoflaeclfggaaDoor.lRwWindows
