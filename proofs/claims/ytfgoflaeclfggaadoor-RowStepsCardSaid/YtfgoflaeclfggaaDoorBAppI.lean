/- append(l, k...) at a statement, guarded or not: whatever the lists, the answer is an own list that reads l with k behind. -/
import Derived.Test.YtfgoflaeclfggaaDoorB1
import Derived.Deep.AppendLies
import Derived.Deep.Upon
import Derived.Laws.OwnMore
namespace Go.Proofs.YtfgoflaeclfggaaDoor
open Go.RowKit Go

theorem wp_appI {o : Oper} {a : Act} {K : Act → World → Prop} {Q : Exit → Act → World → Prop} {w : World} (s x : Operand)
    (ho : o.op = .call { callee := .builtin .append, args := #[s, x], argTypes := #[22, 22] }) (base : Nat) (p : Option Addr) (n c : Nat) (l : List Int) (hs : a.eval s = .slice p n c) (hn : n = l.length) (h : IntO base w p c l) (hB : base ≤ w.heap.size)
    (q : Option Addr) (m d : Nat) (k : List Int) (hx : a.eval x = .slice q m d) (hm : m = k.length) (h' : IntV w.heap.size w q d k) (hl : l.length ≤ 1000000) (hk : k.length ≤ 1000000)
    (hK : ∀ p' c' w', IntO base w' p' c' (l ++ k) → Below base w w' → K (a.put o.dst (.slice p' (n + m) c')) w') : o.wp Tryd.prog a w K Q := by
  obtain ⟨i0, hi, hz0, hz1, hz2⟩ := info_parts infoI
  rcases Nat.eq_zero_or_pos m with h0 | h0
  · obtain rfl : k = [] := List.eq_nil_of_length_eq_zero (by omega)
    subst h0
    have hrun := run_append_nothing (P := Tryd.prog) w 22 22 o.type 3 i0 Tryd.underlying22 hi p n c (by have := h.toV.le; omega) (.slice q 0 d)
      ⟨Or.inl ⟨_, Tryd.underlying22⟩, fun _ => by simp [Builtin.lenOf], by cases q <;> simp [Builtin.firstCells, loadCells, loadCellsFrom], by cases q <;> simp [Builtin.firstCells, loadCells, loadCellsFrom], by simp, fun u hu => by simp at hu⟩
    have := hK p c w (by rw [List.append_nil]; exact h) (Below.refl _ _)
    unfold Oper.wp execOp
    simp only [ho, resolve, invoke, builtin, Sem.run_bind, Sem.run_pure, Result.andThen_ok, List.map_toArray, List.map_cons, List.map_nil, hs, hx, hrun]
    exact this
  · obtain ⟨b, off, rfl, hb, hc⟩ := h'.cell (by rintro rfl; simp at hm; omega)
    subst hn
    refine wp_append_lies w s x 22 ho base 3 i0 (.int .i64 0) 1 8 Tryd.underlying22 hi hz0 hz1 hz2 rfl (by decide) _ l.length (cI l) hs h ⟨b, off, none⟩ m d (cI k) hx (by rw [cI_length, hm, Nat.mul_one]) ?_ ?_ h0 (by unfold maxLen; omega) (by omega) hB w.heap.size rfl ?_
    · intro j u hj
      obtain ⟨y, hy, rfl⟩ : ∃ y, k[j]? = some y ∧ u = .int .i64 y := by
        unfold cI at hj
        rw [List.getElem?_map] at hj
        cases hq : k[j]? with
        | none => rw [hq] at hj; cases hj
        | some y => rw [hq] at hj; exact ⟨y, rfl, (Option.some.inj hj).symm⟩
      rw [add_off]
      exact hc j y hy
    · intro u hu
      obtain ⟨y, _, rfl⟩ := List.mem_map.1 hu
      rfl
    · intro g cap w' hown hgrow _ _
      rw [← cI_app] at hown
      have hown2 : w'.ownsRow base 3 1 (.slice (some ⟨g, 0, none⟩) (l.length + m) cap) (l ++ k).length (cI (l ++ k)) := by rw [List.length_append, ← hm]; exact hown
      obtain ⟨p', c', he, ho'⟩ := IntO.slice_own hown2
      rw [List.length_append, ← hm] at he
      rw [he]
      exact hK p' c' w' ho' ((Below.refl _ _).grown hgrow hB (fun j hj => (World.ownsRow.lt h j hj).1))
theorem wpList_appI {ops : Array Oper} {rest : List Oper} {o : Oper} {a : Act} {Q : Exit → Act → World → Prop} {w : World} (hw : Region.wanted o (yielded ops a.tmps) = true) (s x : Operand)
    (ho : o.op = .call { callee := .builtin .append, args := #[s, x], argTypes := #[22, 22] }) (base : Nat) (p : Option Addr) (n c : Nat) (l : List Int) (hs : a.eval s = .slice p n c) (hn : n = l.length) (h : IntO base w p c l) (hB : base ≤ w.heap.size)
    (q : Option Addr) (m d : Nat) (k : List Int) (hx : a.eval x = .slice q m d) (hm : m = k.length) (h' : IntV w.heap.size w q d k) (hl : l.length ≤ 1000000) (hk : k.length ≤ 1000000)
    (hK : ∀ p' c' w', IntO base w' p' c' (l ++ k) → Below base w w' → wpList Tryd.prog ops Q rest (a.put o.dst (.slice p' (n + m) c')) w') : wpList Tryd.prog ops Q (o :: rest) a w :=
  wpList_step fun _ h2 => by
    rw [if_pos hw]
    exact wp_appI s x ho base p n c l hs hn h hB q m d k hx hm h' hl hk fun p' c' w' h1 hb => h2 _ _ (hK p' c' w' h1 hb)
end Go.Proofs.YtfgoflaeclfggaaDoor
