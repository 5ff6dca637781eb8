/- append(l, y) in a statement that draws its order: whatever the list, the answer is an own list that reads it with y behind. -/
import Derived.Test.YthafjbegkifekaaDoorB1
import Derived.Deep.AppendLies
namespace Go.Proofs.YthafjbegkifekaaDoor
open Go.RowKit Go

theorem wp_pushI {o : Oper} {a : Act} {K : Act → World → Prop} {Q : Exit → Act → World → Prop} {w : World} (s x : Operand)
    (ho : o.op = .call { callee := .builtin .append, args := #[s, x], argTypes := #[22, 22] }) (base : Nat) (p : Option Addr) (n c : Nat) (l : List Int) (hs : a.eval s = .slice p n c) (hn : n = l.length) (h : IntO base w p c l) (hB : base ≤ w.heap.size)
    (B : Nat) (y : Int) (hx : a.eval x = .slice (some ⟨B, 0, none⟩) 1 1) (hb : w.heap[B]? = some (.cells #[.int .i64 y] 3 (0, 0))) (hl : l.length ≤ 1000000)
    (hK : ∀ p' c' w', IntO base w' p' c' (l ++ [y]) → Below base w w' → K (a.put o.dst (.slice p' (n + 1) c')) w') : o.wp Tryd.prog a w K Q := by
  obtain ⟨i0, hi, hz0, hz1, hz2⟩ := info_parts infoI
  subst hn
  refine wp_append_lies w s x 22 ho base 3 i0 (.int .i64 0) 1 8 Tryd.underlying22 hi hz0 hz1 hz2 rfl (by decide) _ l.length (cI l) hs h ⟨B, 0, none⟩ 1 1 [.int .i64 y] hx (by simp) (World.news_of_block hb) (by simp [Value.oneCell']) (by omega) (by unfold maxLen; omega) (by omega) hB w.heap.size rfl ?_
  intro g cap w' hown hgrow _ _
  have hxs : cI l ++ [Value.int .i64 y] = cI (l ++ [y]) := by rw [cI_app]; rfl
  rw [hxs] at hown
  have hown2 : w'.ownsRow base 3 1 (.slice (some ⟨g, 0, none⟩) (l.length + 1) cap) (l ++ [y]).length (cI (l ++ [y])) := by rw [List.length_append]; exact hown
  obtain ⟨p', c', he, ho'⟩ := IntO.slice_own hown2
  rw [List.length_append] at he
  rw [he]
  exact hK p' c' w' ho' ((Below.refl _ _).grown hgrow hB (fun j hj => (World.ownsRow.lt h j hj).1))
theorem step_pushI {ops : Array Oper} {o : Oper} {a : Act} {K : Act → World → Prop} {Q : Exit → Act → World → Prop} {E : Prop} {w : World} (hgd : o.guard = none) (s x : Operand)
    (ho : o.op = .call { callee := .builtin .append, args := #[s, x], argTypes := #[22, 22] }) (base : Nat) (p : Option Addr) (n c : Nat) (l : List Int) (hs : a.eval s = .slice p n c) (hn : n = l.length) (h : IntO base w p c l) (hB : base ≤ w.heap.size)
    (B : Nat) (y : Int) (hx : a.eval x = .slice (some ⟨B, 0, none⟩) 1 1) (hb : w.heap[B]? = some (.cells #[.int .i64 y] 3 (0, 0))) (hl : l.length ≤ 1000000)
    (hK : ∀ p' c' w', IntO base w' p' c' (l ++ [y]) → Below base w w' → K (a.put o.dst (.slice p' (n + 1) c')) w') :
    if Region.wanted o (yielded ops a.tmps) = true then Oper.wp Tryd.prog o a w K Q else E := by
  have hw : Region.wanted o (yielded ops a.tmps) = true := by simp [Region.wanted, hgd]
  rw [if_pos hw]
  exact wp_pushI s x ho base p n c l hs hn h hB B y hx hb hl hK
end Go.Proofs.YthafjbegkifekaaDoor
