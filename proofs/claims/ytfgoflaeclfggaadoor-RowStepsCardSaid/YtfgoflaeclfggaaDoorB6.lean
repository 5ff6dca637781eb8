/- edenraw.Under by its contract: an Err, told further.
Errors of the program and of the document, told by one word: a first list and an error beside it.
An argument that is a list of limbs, opened: it reads a list of numbers below 2^32.
append([]int{}, l...) in a statement that draws its order: whatever the list, the answer is an own list that reads it. -/
import Derived.Test.YtfgoflaeclfggaaDoorB3
import Derived.Test.YtfgoflaeclfggaaDoorB2
import Derived.Deep.AppendLies
import Derived.Deep.RegionWith
import Derived.Deep.RegionHeld3
import Derived.Deep.DrawnRows
import Derived.Test.YtfgoflaeclfggaaDoorB1
import Derived.Test.YtfgoflaeclfggaaDoorB4
import Derived.ChangeSlices
import Derived.Deep.Upon
import Derived.Laws.OwnMore
section
namespace Go.Proofs.YtfgoflaeclfggaaDoor
open Go.RowKit Go.Extern.Stop Go.Stop Go.Extern
attribute [local go_sem ↓] Go.wp_at_zero Go.wp_at_succ

theorem infoSt : (Tryd.prog.info? 9).map (fun i => (i.zero, i.size, i.bytes)) = some (some (.string ⟨#[]⟩), 1, 16) := by kernel_rfl
def cS (L : List (ByteArray × Int)) : List Value := L.map fun x => Value.string x.1
def cA (L : List (ByteArray × Int)) : List Value := L.map fun x => Value.int .i64 x.2
theorem own_lit {e : TypeId} {w : World} {v : Value} {base g : Nat} (hb : base ≤ g) (h : w.heap[g]? = some (.cells #[v] e (0, 0))) : w.ownsRow base e 1 (.slice (some ⟨g, 0, none⟩) 1 1) 1 [v] :=
  ⟨rfl, Or.inr ⟨g, 1, #[v], rfl, hb, h, Nat.le_refl _, by decide, rfl, rfl⟩⟩
theorem other_row {w : World} {b b' : Nat} {e e' : TypeId} {v v' : Value} {n n' : Nat} {xs xs' : List Value} (h : w.ownsRow b e 1 v n xs) (h' : w.ownsRow b' e' 1 v' n' xs') (hne : e ≠ e') : v.ownBlock = none ∨ v.ownBlock ≠ v'.ownBlock := by
  rcases h.2 with ⟨rfl, _⟩ | ⟨g, cap, cur, rfl, _, hh, _⟩
  · exact Or.inl rfl
  · right
    rcases h'.2 with ⟨rfl, _⟩ | ⟨g', cap', cur', rfl, _, hh', _⟩
    · simp [Value.ownBlock]
    · intro hq
      have : g = g' := by simpa [Value.ownBlock] using hq
      subst this
      rw [hh] at hh'
      injection hh' with hh'
      injection hh' with _ ht
      exact hne ht
theorem WantV.news {w wx : World} {po pa : Option Addr} {co ca : Nat} {L : List (ByteArray × Int)} (h : WantV w po pa co ca L) (hb : Below w.heap.size w wx) (hL : L ≠ []) :
    ∃ bo oo ba oa, po = some ⟨bo, oo, none⟩ ∧ pa = some ⟨ba, oa, none⟩ ∧ (∀ j u, (cS L)[j]? = some u → wx.cell? ((⟨bo, oo, none⟩ : Addr).add j) = some u) ∧ (∀ j u, (cA L)[j]? = some u → wx.cell? ((⟨ba, oa, none⟩ : Addr).add j) = some u) := by
  have h' := h.below hb
  obtain ⟨bo, oo, rfl, _, hco⟩ := h'.ops hL
  obtain ⟨ba, oa, rfl, _, hca⟩ := h'.ats hL
  refine ⟨bo, oo, ba, oa, rfl, rfl, fun j u hu => ?_, fun j u hu => ?_⟩
  · unfold cS at hu
    rw [List.getElem?_map] at hu
    obtain ⟨x, hx, rfl⟩ := Option.map_eq_some_iff.1 hu
    rw [add_off]
    exact hco j x hx
  · unfold cA at hu
    rw [List.getElem?_map] at hu
    obtain ⟨x, hx, rfl⟩ := Option.map_eq_some_iff.1 hu
    rw [add_off]
    exact hca j x hx
/-- two own rows make an Err's two slices -/
theorem WantV.of_own {w : World} {base g g' m c c' : Nat} {L : List (ByteArray × Int)} (hm : m = L.length) (hc : c ≤ maxLen) (hc' : c' ≤ maxLen) (h : w.ownsRow base 9 1 (.slice (some ⟨g, 0, none⟩) m c) m (cS L)) (h' : w.ownsRow base 3 1 (.slice (some ⟨g', 0, none⟩) m c') m (cA L)) (hle : m ≤ c) (hle' : m ≤ c') (hg : g < w.heap.size) (hg' : g' < w.heap.size) :
    WantV w (some ⟨g, 0, none⟩) (some ⟨g', 0, none⟩) c c' L := by
  subst hm
  refine ⟨fun _ => ⟨g, 0, rfl, hg, fun j x hx => ?_⟩, fun _ => ⟨g', 0, rfl, hg', fun j x hx => ?_⟩, hle, hle', hc, hc'⟩
  · have hl := (List.getElem?_eq_some_iff.1 hx).1
    rw [Nat.zero_add]
    refine (h.cellAt j (by omega)).trans ?_
    unfold cS
    rw [List.getElem?_map, hx]; rfl
  · have hl := (List.getElem?_eq_some_iff.1 hx).1
    rw [Nat.zero_add]
    refine (h'.cellAt j (by omega)).trans ?_
    unfold cA
    rw [List.getElem?_map, hx]; rfl
/-- a literal of one value, and a row behind it: in a region that draws its order -/
theorem step_lit {ops : Array Oper} {o : Oper} {a : Act} {K : Act → World → Prop} {Q : Exit → Act → World → Prop} {E : Prop} {w : World} (t e : TypeId) (i0 : TypeInfo) (z : Value) (bytes : Nat) (hgd : o.guard = none) (s x : Operand)
    (ho : o.op = .call { callee := .builtin .append, args := #[s, x], argTypes := #[t, t] })
    (ht : Tryd.prog.underlying t = some (.slice e)) (hi : Tryd.prog.info? e = some i0) (hz0 : i0.zero = some z) (hz1 : i0.size = 1) (hz2 : i0.bytes = bytes) (hz : z.cells.size = 1) (hb16 : bytes ≤ 16)
    (base g : Nat) (v : Value) (hs : a.eval s = .slice (some ⟨g, 0, none⟩) 1 1) (hg : base ≤ g) (hh : w.heap[g]? = some (.cells #[v] e (0, 0)))
    (ad : Addr) (n c : Nat) (vs : List Value) (hx : a.eval x = .slice (some ad) n c) (hl : vs.length = n * 1) (hv : ∀ j u, vs[j]? = some u → w.cell? (ad.add j) = some u) (h1 : ∀ u ∈ vs, u.oneCell' = true) (hn : 0 < n) (hn2 : n ≤ 1000) (hB : base ≤ w.heap.size)
    (hK : ∀ g' c' w', w'.ownsRow base e 1 (.slice (some ⟨g', 0, none⟩) (1 + n) c') (1 + n) (v :: vs) → w.grownBy w' (some g) → Below base w w' → K (a.put o.dst (.slice (some ⟨g', 0, none⟩) (1 + n) c')) w') :
    if Region.wanted o (yielded ops a.tmps) = true then Oper.wp Tryd.prog o a w K Q else E := by
  have hw : Region.wanted o (yielded ops a.tmps) = true := by simp [Region.wanted, hgd]
  rw [if_pos hw]
  have hown := own_lit hg hh
  refine wp_append_lies w s x t ho base e i0 z 1 bytes ht hi hz0 hz1 hz2 hz (by decide) _ 1 [v] hs hown ad n c vs hx hl hv h1 hn (by unfold maxLen; omega) ?_ hB w.heap.size rfl ?_
  · have : (1 + n) * bytes ≤ 1001 * 16 := Nat.mul_le_mul (by omega) hb16
    omega
  · intro g' c' w' hown' hgrow _ _
    exact hK g' c' w' hown' hgrow ((Below.refl _ _).grown hgrow hB (fun j hj => (World.ownsRow.lt hown j hj).1))
theorem own_put3 {w : World} {base h : Nat} {e : TypeId} {v : Value} {n : Nat} {xs : List Value} (ho : w.ownsRow base e 1 v n xs) (hh : h < base) (a b d : Value) : (put3 w h a b d).ownsRow base e 1 v n xs :=
  ownsRow_setCell_below (ownsRow_setCell_below (ownsRow_setCell_below ho (a := ⟨h, 0, none⟩) hh a) (a := ⟨h, 1, none⟩) hh b) (a := ⟨h, 2, none⟩) hh d
theorem WantV.of_rows {w : World} {base g g' m c c' : Nat} {L : List (ByteArray × Int)} (hm : m = L.length) (h0 : 0 < m) (h : w.ownsRow base 9 1 (.slice (some ⟨g, 0, none⟩) m c) m (cS L)) (h' : w.ownsRow base 3 1 (.slice (some ⟨g', 0, none⟩) m c') m (cA L)) :
    WantV w (some ⟨g, 0, none⟩) (some ⟨g', 0, none⟩) c c' L := by
  rcases own_shape h with ⟨hv, h1, _⟩ | ⟨x, cap, hv, _, hlt, hc, hmx, _⟩
  · omega
  · rcases own_shape h' with ⟨hv', h1', _⟩ | ⟨x', cap', hv', _, hlt', hc', hmx', _⟩
    · omega
    · obtain ⟨rfl, rfl⟩ : g = x ∧ c = cap := by simpa using hv
      obtain ⟨rfl, rfl⟩ : g' = x' ∧ c' = cap' := by simpa using hv'
      exact WantV.of_own hm hmx hmx' h h' hc hc' hlt hlt'
/-- what an Err says, told further -/
def UnderPost (w : World) (a : Int) (L : List (ByteArray × Int)) (e : Ending) (w' : World) : Prop :=
  ∃ go ga co ca, e = .returned (.agg #[.int .i64 a, .slice (some ⟨go, 0, none⟩) L.length co, .slice (some ⟨ga, 0, none⟩) L.length ca]) ∧ w.heap.size ≤ go ∧ w.heap.size ≤ ga ∧ WantV w' (some ⟨go, 0, none⟩) (some ⟨ga, 0, none⟩) co ca L ∧ Below w.heap.size w w'
theorem two_errs (w : World) (a b c x y z : Value) (w0 : World) (hw0 : w0 = (w.alloc (.cells #[a, b, c] 33)).alloc (.cells #[x, y, z] 33)) :
    Below w.heap.size w w0 ∧ Err3 w0 w.heap.size a b c ∧ Err3 w0 (w.heap.size + 1) x y z := by
  have h1 : Below w.heap.size w (w.alloc (.cells #[a, b, c] 33)) := (Below.refl _ _).alloc (Nat.le_refl _) _
  have h2 : Below (w.alloc (.cells #[a, b, c] 33)).heap.size (w.alloc (.cells #[a, b, c] 33)) w0 := by rw [hw0]; exact (Below.refl _ _).alloc (Nat.le_refl _) _
  have hs : (w.alloc (.cells #[a, b, c] 33)).heap.size = w.heap.size + 1 := by simp
  have h3 : Err3 w0 (w.alloc (.cells #[a, b, c] 33)).heap.size x y z := by rw [hw0]; exact ⟨heap_alloc_new _ _⟩
  rw [hs] at h3
  have h4 : Err3 (w.alloc (.cells #[a, b, c] 33)) w.heap.size a b c := ⟨heap_alloc_new _ _⟩
  exact ⟨h1.trans (h2.mono h1.size), h4.next h2, h3⟩
set_option maxRecDepth 100000 in
set_option maxHeartbeats 4000000 in
theorem under_ref (op : ByteArray) (pl a : Int) (po pa : Option Addr) (n co ca : Nat) (L : List (ByteArray × Int)) (w : World) (ha : a ≠ 0) (hn : n = L.length) (h1 : 1 ≤ n) (hn2 : n ≤ 1000) (h : WantV w po pa co ca L) :
    Calls Tryd.prog 53 #[.string op, .int .i64 pl, .agg #[.int .i64 a, .slice po n co, .slice pa n ca]] w (UnderPost w a ((op, pl) :: L)) := by
  have ST := Lib.hid (two_errs w (.int .i64 a) (.slice po n co) (.slice pa n ca) (.int .i64 0) (.slice none 0 0) (.slice none 0 0))
  have H := Lib.hid (And.intro hn (And.intro h1 h))
  clear hn h
  go_enter Tryd.func53, Tryd.ntmps53
  go_upto_region 1 with fail
  obtain ⟨w0, hw0⟩ : ∃ w0, w0 = (w.alloc (.cells #[.int .i64 a, .slice po n co, .slice pa n ca] 33)).alloc (.cells #[.int .i64 0, .slice none 0 0, .slice none 0 0] 33) := ⟨_, rfl⟩
  rw [← hw0]
  obtain ⟨hb0, hE0, hF0⟩ := ST.out w0 hw0
  obtain ⟨_, hc0, hc1, hc2⟩ := hE0.facts
  have hfa : ∀ wx : World, Below w0.heap.size w0 wx → wx.cell? ⟨w.heap.size, 0, none⟩ = some (.int .i64 a) ∧ wx.cell? ⟨w.heap.size, 1, none⟩ = some (.slice po n co) ∧ wx.cell? ⟨w.heap.size, 2, none⟩ = some (.slice pa n ca) := fun wx hbx => (hE0.next hbx).facts.2
  have hff : ∀ wx : World, Below w0.heap.size w0 wx → wx.frozen? ⟨w.heap.size + 1, 0, none⟩ = false ∧ wx.frozen? ⟨w.heap.size + 1, 1, none⟩ = false ∧ wx.frozen? ⟨w.heap.size + 1, 2, none⟩ = false := fun wx hbx => (hF0.next hbx).facts.1
  have hfc : ∀ wx : World, Below w0.heap.size w0 wx → wx.cell? ⟨w.heap.size + 1, 0, none⟩ = some (.int .i64 0) ∧ wx.cell? ⟨w.heap.size + 1, 1, none⟩ = some (.slice none 0 0) ∧ wx.cell? ⟨w.heap.size + 1, 2, none⟩ = some (.slice none 0 0) := fun wx hbx => (hF0.next hbx).facts.2
  have HE := Lib.hid (And.intro hb0 (And.intro hE0 hF0))
  clear hw0 hE0 hb0 hF0
  go_wp2_with fail
  have hL0 : L ≠ [] := by have := H.out.1; rintro rfl; simp at this; omega
  obtain ⟨bo, oo, ba, oa, hpo, hpa, _, _⟩ := H.out.2.2.news (Below.refl _ _) hL0
  subst hpo hpa
  have hnS : ∀ wx : World, Below w0.heap.size w0 wx → ∀ j u, (cS L)[j]? = some u → wx.cell? ((⟨bo, oo, none⟩ : Addr).add j) = some u := fun wx hbx => by
    obtain ⟨_, _, _, _, e1, e2, h1, _⟩ := H.out.2.2.news (HE.out.1.trans (hbx.mono HE.out.1.size)) hL0
    cases e1; exact h1
  have hnA : ∀ wx : World, Below w0.heap.size w0 wx → ∀ j u, (cA L)[j]? = some u → wx.cell? ((⟨ba, oa, none⟩ : Addr).add j) = some u := fun wx hbx => by
    obtain ⟨_, _, _, _, e1, e2, _, h2⟩ := H.out.2.2.news (HE.out.1.trans (hbx.mono HE.out.1.size)) hL0
    cases e2; exact h2
  have hlS : (cS L).length = n * 1 := by unfold cS; rw [List.length_map, Nat.mul_one]; exact H.out.1.symm
  have hlA : (cA L).length = n * 1 := by unfold cA; rw [List.length_map, Nat.mul_one]; exact H.out.1.symm
  have hoS : ∀ u ∈ cS L, u.oneCell' = true := fun u hu => by unfold cS at hu; obtain ⟨x, _, rfl⟩ := List.mem_map.1 hu; rfl
  have hoA : ∀ u ∈ cA L, u.oneCell' = true := fun u hu => by unfold cA at hu; obtain ⟨x, _, rfl⟩ := List.mem_map.1 hu; rfl
  have h1n : 0 < n := h1
  obtain ⟨iS, hiS, hzS0, hzS1, hzS2⟩ := info_parts infoSt
  obtain ⟨iA, hiA, hzA0, hzA1, hzA2⟩ := info_parts infoI
  have hd0 : Below w0.heap.size w0 w0.drew := (Below.refl _ _).drew
  have hB : w.heap.size + 1 < w0.heap.size := heap_ltN HE.out.2.2.heap
  have hs0 : w.heap.size < w0.heap.size := by omega
  have HH := Lib.hid (And.intro hnS (And.intro hnA (And.intro hlS (And.intro hlA (And.intro hoS (And.intro hoA (And.intro hfa (And.intro hff hfc))))))))
  clear hnS hnA hlS hlA hoS hoA hfa hff hfc
  have h16 : (16 : Nat) ≤ 16 := Nat.le_refl _
  have h8 : (8 : Nat) ≤ 16 := by omega
  obtain ⟨WS, hWS⟩ : ∃ x, x = w0.alloc (.cells #[.string op] 9) := ⟨_, rfl⟩
  obtain ⟨WA, hWA⟩ : ∃ x, x = w0.alloc (.cells #[.int .i64 pl] 3) := ⟨_, rfl⟩
  have sS : WS.heap.size = w0.heap.size + 1 := by rw [hWS]; simp
  have sA : WA.heap.size = w0.heap.size + 1 := by rw [hWA]; simp
  have lS : WS.heap[w0.heap.size]? = some (.cells #[.string op] 9 (0, 0)) := by rw [hWS]; exact heap_newN w0 _
  have lA : WA.heap[w0.heap.size]? = some (.cells #[.int .i64 pl] 3 (0, 0)) := by rw [hWA]; exact heap_newN w0 _
  have bS : Below w0.heap.size w0 WS := by rw [hWS]; exact (Below.refl w0.heap.size w0).alloc (Nat.le_refl _) _
  have bA : Below w0.heap.size w0 WA := by rw [hWA]; exact (Below.refl w0.heap.size w0).alloc (Nat.le_refl _) _
  have hal : ∀ w1 : World, (w1.alloc (.cells #[.int .i64 pl] 3)).heap[w1.heap.size]? = some (.cells #[.int .i64 pl] 3 (0, 0)) := fun w1 => heap_newN w1 _
  have hbl : ∀ w1 : World, Below w1.heap.size w1 (w1.alloc (.cells #[.int .i64 pl] 3)) := fun w1 => (Below.refl w1.heap.size w1).alloc (Nat.le_refl _) _
  -- two literals, the words first
  have b2 : Below w0.heap.size w0 (WS.alloc (.cells #[.int .i64 pl] 3)) := bS.trans ((hbl WS).mono bS.size)
  have l2S : (WS.alloc (.cells #[.int .i64 pl] 3)).heap[w0.heap.size]? = some (.cells #[.string op] 9 (0, 0)) := ((hbl WS).block _ (by omega)).trans lS
  have l2A : (WS.alloc (.cells #[.int .i64 pl] 3)).heap[w0.heap.size + 1]? = some (.cells #[.int .i64 pl] 3 (0, 0)) := by have := hal WS; rwa [sS] at this
  -- two literals, the places first
  have bb : Below WA.heap.size WA (WA.alloc (.cells #[.string op] 9)) := (Below.refl _ WA).alloc (Nat.le_refl _) _
  have b3 : Below w0.heap.size w0 (WA.alloc (.cells #[.string op] 9)) := bA.trans (bb.mono bA.size)
  have l3A : (WA.alloc (.cells #[.string op] 9)).heap[w0.heap.size]? = some (.cells #[.int .i64 pl] 3 (0, 0)) := (bb.block _ (by omega)).trans lA
  have l3S : (WA.alloc (.cells #[.string op] 9)).heap[w0.heap.size + 1]? = some (.cells #[.string op] 9 (0, 0)) := by have := heap_newN WA (.cells #[.string op] 9); rwa [sA] at this
  have z2 : (WS.alloc (.cells #[.int .i64 pl] 3)).heap.size = w0.heap.size + 2 := by simp [sS]
  have z3 : (WA.alloc (.cells #[.string op] 9)).heap.size = w0.heap.size + 2 := by simp [sA]
  rw [hWS] at b2 l2S l2A z2 lS bS
  rw [hWA] at b3 l3A l3S z3
  have b1 := bS.drew
  have b2 := b2.drew
  have b3 := b3.drew
  have lS : ((w0.alloc (.cells #[.string op] 9)).drew).heap[w0.heap.size]? = some (.cells #[.string op] 9 (0, 0)) := lS
  have l2S : (((w0.alloc (.cells #[.string op] 9)).alloc (.cells #[.int .i64 pl] 3)).drew).heap[w0.heap.size]? = some (.cells #[.string op] 9 (0, 0)) := l2S
  have l2A : (((w0.alloc (.cells #[.string op] 9)).alloc (.cells #[.int .i64 pl] 3)).drew).heap[w0.heap.size + 1]? = some (.cells #[.int .i64 pl] 3 (0, 0)) := l2A
  have l3S : (((w0.alloc (.cells #[.int .i64 pl] 3)).alloc (.cells #[.string op] 9)).drew).heap[w0.heap.size + 1]? = some (.cells #[.string op] 9 (0, 0)) := l3S
  have l3A : (((w0.alloc (.cells #[.int .i64 pl] 3)).alloc (.cells #[.string op] 9)).drew).heap[w0.heap.size]? = some (.cells #[.int .i64 pl] 3 (0, 0)) := l3A
  have z2 : (((w0.alloc (.cells #[.string op] 9)).alloc (.cells #[.int .i64 pl] 3)).drew).heap.size = w0.heap.size + 2 := z2
  have z3 : (((w0.alloc (.cells #[.int .i64 pl] 3)).alloc (.cells #[.string op] 9)).drew).heap.size = w0.heap.size + 2 := z3
  have hle1 : w0.heap.size ≤ w0.heap.size + 1 := Nat.le_succ _
  have hzlt : w0.heap.size + 1 < w0.heap.size + 2 := by omega
  have hzlt0 : w0.heap.size < w0.heap.size + 2 := by omega
  have hne1 : some (w0.heap.size + 1) ≠ some w0.heap.size := by simp
  have hne0 : some w0.heap.size ≠ some (w0.heap.size + 1) := by simp
  have hne : 9 ≠ 3 := by decide
  have P1 := Lib.hid (And.intro lS (And.intro b1 (And.intro hal hbl)))
  have P2 := Lib.hid (And.intro b2 (And.intro l2S (And.intro l2A z2)))
  have P3 := Lib.hid (And.intro b3 (And.intro l3A (And.intro l3S z3)))
  have Q := Lib.hid (And.intro hle1 (And.intro hzlt (And.intro hzlt0 (And.intro hne1 (And.intro hne0 hne)))))
  clear hWS hWA sS sA lS lA bS bA b1 hal hbl b2 l2S l2A bb b3 l3A l3S z2 z3 hle1 hzlt hzlt0 hne1 hne0 hne
  go_region_held3 (fun w' => w'.cell? ⟨w.heap.size, 0, none⟩ = some (.int .i64 a) ∧ w'.cell? ⟨w.heap.size, 1, none⟩ = some (.slice (some ⟨bo, oo, none⟩) n co) ∧ w'.cell? ⟨w.heap.size, 2, none⟩ = some (.slice (some ⟨ba, oa, none⟩) n ca)) (first | exact HH.out.2.2.2.2.2.2.1 _ (by assumption) | exact HH.out.2.2.2.2.2.2.1 _ hd0 | go_keep) (first
    | (refine step_lit 31 9 iS _ 16 (by rfl) _ _ (by rfl) Tryd.underlying31 hiS hzS0 hzS1 hzS2 (by rfl) h16 w0.heap.size w0.heap.size (.string op) (by rfl) (Nat.le_refl _) P1.out.1 ⟨bo, oo, none⟩ n co (cS L) (by rfl) HH.out.2.2.1 (HH.out.1 _ P1.out.2.1) HH.out.2.2.2.2.1 h1n hn2 P1.out.2.1.size ?_; intro gs cs w1 hS1 _ hgS; have hB1 : Below w0.heap.size w0 w1 := P1.out.2.1.trans hgS)
    | (refine step_lit 31 9 iS _ 16 (by rfl) _ _ (by rfl) Tryd.underlying31 hiS hzS0 hzS1 hzS2 (by rfl) h16 w0.heap.size w0.heap.size (.string op) (by rfl) (Nat.le_refl _) P2.out.2.1 ⟨bo, oo, none⟩ n co (cS L) (by rfl) HH.out.2.2.1 (HH.out.1 _ P2.out.1) HH.out.2.2.2.2.1 h1n hn2 P2.out.1.size ?_; intro gs cs u1 hS1 hrS hgS; have hB1 : Below w0.heap.size w0 u1 := P2.out.1.trans hgS; have hAl := (hrS.block (w0.heap.size + 1) (by rw [P2.out.2.2.2]; exact Q.out.2.1) Q.out.2.2.2.1).trans P2.out.2.2.1)
    | (refine step_lit 31 9 iS _ 16 (by rfl) _ _ (by rfl) Tryd.underlying31 hiS hzS0 hzS1 hzS2 (by rfl) h16 w0.heap.size (w0.heap.size + 1) (.string op) (by rfl) Q.out.1 P3.out.2.2.1 ⟨bo, oo, none⟩ n co (cS L) (by rfl) HH.out.2.2.1 (HH.out.1 _ P3.out.1) HH.out.2.2.2.2.1 h1n hn2 P3.out.1.size ?_; intro gs cs v1 hS1 hrS hgS; have hB1 : Below w0.heap.size w0 v1 := P3.out.1.trans hgS; have hAl := (hrS.block w0.heap.size (by rw [P3.out.2.2.2]; exact Q.out.2.2.1) Q.out.2.2.2.2.1).trans P3.out.2.1)
    | (refine step_lit 22 3 iA _ 8 (by rfl) _ _ (by rfl) Tryd.underlying22 hiA hzA0 hzA1 hzA2 (by rfl) h8 w0.heap.size w1.heap.size (.int .i64 pl) (by rfl) hB1.size (P1.out.2.2.1 w1) ⟨ba, oa, none⟩ n ca (cA L) (by rfl) HH.out.2.2.2.1 (HH.out.2.1 _ (hB1.trans ((P1.out.2.2.2 w1).mono hB1.size))) HH.out.2.2.2.2.2.1 h1n hn2 (Nat.le_trans hB1.size (P1.out.2.2.2 w1).size) ?_; intro ga ca' w2 hA2 hrA hgA; have hB2 : Below w0.heap.size w0 w2 := (hB1.trans ((P1.out.2.2.2 w1).mono hB1.size)).trans hgA; have hSf := (ownsRow_below (P1.out.2.2.2 w1) hS1).kept hrA (other_row (ownsRow_below (P1.out.2.2.2 w1) hS1) (own_lit hB1.size (P1.out.2.2.1 w1)) Q.out.2.2.2.2.2); obtain ⟨hf0, hf1, hf2⟩ := HH.out.2.2.2.2.2.2.2.1 w2 hB2; obtain ⟨hx0, hx1, hx2⟩ := HH.out.2.2.2.2.2.2.2.2 w2 hB2)
    | (refine step_lit 22 3 iA _ 8 (by rfl) _ _ (by rfl) Tryd.underlying22 hiA hzA0 hzA1 hzA2 (by rfl) h8 w0.heap.size (w0.heap.size + 1) (.int .i64 pl) (by rfl) Q.out.1 hAl ⟨ba, oa, none⟩ n ca (cA L) (by rfl) HH.out.2.2.2.1 (HH.out.2.1 _ hB1) HH.out.2.2.2.2.2.1 h1n hn2 hB1.size ?_; intro ga ca' w2 hA2 hrA hgA; have hB2 : Below w0.heap.size w0 w2 := hB1.trans hgA; have hSf := hS1.kept hrA (other_row hS1 (own_lit Q.out.1 hAl) Q.out.2.2.2.2.2); obtain ⟨hf0, hf1, hf2⟩ := HH.out.2.2.2.2.2.2.2.1 w2 hB2; obtain ⟨hx0, hx1, hx2⟩ := HH.out.2.2.2.2.2.2.2.2 w2 hB2)
    | (refine step_lit 22 3 iA _ 8 (by rfl) _ _ (by rfl) Tryd.underlying22 hiA hzA0 hzA1 hzA2 (by rfl) h8 w0.heap.size w0.heap.size (.int .i64 pl) (by rfl) (Nat.le_refl _) hAl ⟨ba, oa, none⟩ n ca (cA L) (by rfl) HH.out.2.2.2.1 (HH.out.2.1 _ hB1) HH.out.2.2.2.2.2.1 h1n hn2 hB1.size ?_; intro ga ca' w2 hA2 hrA hgA; have hB2 : Below w0.heap.size w0 w2 := hB1.trans hgA; have hSf := hS1.kept hrA (other_row hS1 (own_lit (Nat.le_refl _) hAl) Q.out.2.2.2.2.2); obtain ⟨hf0, hf1, hf2⟩ := HH.out.2.2.2.2.2.2.2.1 w2 hB2; obtain ⟨hx0, hx1, hx2⟩ := HH.out.2.2.2.2.2.2.2.2 w2 hB2))
  all_goals
    have hm : 1 + n = ((op, pl) :: L).length := by show 1 + n = L.length + 1; rw [H.out.1]; omega
    have hbw : Below w.heap.size w w2 := HE.out.1.trans (hB2.mono HE.out.1.size)
    have HF := Lib.hid (And.intro hm (And.intro hbw (And.intro hSf (And.intro hA2 hB))))
    clear hm hbw hSf hA2 hB2
    go_wp2_with fail
    refine bodyPost_ret (v := .agg #[.int .i64 a, .slice (some ⟨gs, 0, none⟩) (1 + n) cs, .slice (some ⟨ga, 0, none⟩) (1 + n) ca']) (by simp [results, Tryd.results53, go_sem, hx0, hx1, hx2]) rfl ⟨gs, ga, _, _, by rw [HF.out.1], Nat.le_trans HE.out.1.size (HF.out.2.2.1.lt gs rfl).1, Nat.le_trans HE.out.1.size (HF.out.2.2.2.1.lt ga rfl).1, WantV.of_rows HF.out.1 (by omega) (own_put3 HF.out.2.2.1 HF.out.2.2.2.2 _ _ _) (own_put3 HF.out.2.2.2.1 HF.out.2.2.2.2 _ _ _), put3_below HF.out.2.1 (Nat.le_succ _) _ _ _⟩
theorem under_ref_none (op : ByteArray) (pl : Int) (w : World) :
    Calls Tryd.prog 53 #[.string op, .int .i64 pl, .agg #[.int .i64 0, .slice none 0 0, .slice none 0 0]] w (Tells (.agg #[.int .i64 0, .slice none 0 0, .slice none 0 0]) w) := by
  have ST := Lib.hid (two_errs w (.int .i64 0) (.slice none 0 0) (.slice none 0 0) (.int .i64 0) (.slice none 0 0) (.slice none 0 0))
  go_enter Tryd.func53, Tryd.ntmps53
  go_upto_region 1 with fail
  obtain ⟨w0, hw0⟩ : ∃ w0, w0 = (w.alloc (.cells #[.int .i64 0, .slice none 0 0, .slice none 0 0] 33)).alloc (.cells #[.int .i64 0, .slice none 0 0, .slice none 0 0] 33) := ⟨_, rfl⟩
  rw [← hw0]
  obtain ⟨hb0, hE0, hF0⟩ := ST.out w0 hw0
  obtain ⟨_, hc0, hc1, hc2⟩ := hE0.facts
  obtain ⟨⟨hf0, hf1, hf2⟩, hd0, hd1, hd2⟩ := hF0.facts
  have HE := Lib.hid hb0
  clear hw0 hE0 hb0 hF0
  go_wp2_with fail
  refine bodyPost_ret (v := .agg #[.int .i64 0, .slice none 0 0, .slice none 0 0]) (by simp [results, Tryd.results53, go_sem, hd0, hd1, hd2]) rfl ⟨rfl, put3_below HE.out (Nat.le_succ _) _ _ _⟩
end Go.Proofs.YtfgoflaeclfggaaDoor
end
section
namespace Go.Proofs.YtfgoflaeclfggaaDoor
open Go.RowKit Go.Extern.Stop Go.Stop Go.Extern

/-- the document's error, its two slices of any capacity -/
def WCg (w : World) (x : Option (List (ByteArray × Int) × Nat)) (a : Int) (po pa : Option Addr) (n co ca : Nat) : Prop := match x with
  | none => a = 0 ∧ po = none ∧ pa = none ∧ n = 0 ∧ co = 0 ∧ ca = 0
  | some (L, m) => a = m ∧ n = L.length ∧ WantV w po pa co ca L
theorem WCg.next {w w' : World} {x : Option (List (ByteArray × Int) × Nat)} {a : Int} {po pa : Option Addr} {n co ca : Nat} (hb : Below w.heap.size w w') (h : WCg w x a po pa n co ca) : WCg w' x a po pa n co ca := by
  cases x with
  | none => exact h
  | some y => exact ⟨h.1, h.2.1, h.2.2.below hb⟩
theorem is_wcg {w : World} {A : Nat → Addr} {x : Option (List (ByteArray × Int) × Nat)} {v : Value} {a : Int} {po pa : Option Addr} {n co ca : Nat} (hr : Roots w A) (hT : TypeVar w) (hx : ∀ y, x = some y → 1 ≤ y.2 ∧ y.2 ≤ 11) (h : PChn w A x v) (h' : WCg w x a po pa n co ca) :
    Calls Tryd.prog 15 #[v, .agg #[.int .i64 a, .slice po n co, .slice pa n ca]] w (Tells (.bool true) w) := by
  cases x with
  | none =>
    obtain ⟨rfl, rfl, rfl, rfl, rfl, rfl⟩ := h'
    obtain rfl : v = .nilIface := h
    exact Is_none none none 0 0 0 0 w
  | some y =>
    obtain ⟨rfl, hn, hw⟩ := h'
    obtain ⟨b, rfl, op, pl, bs, hL, hl⟩ := h
    have hL2 : List.map Prod.snd ((b, op, pl) :: bs) = y.1 := hL
    exact Is_chain ((b, op, pl) :: bs) y.2 (hx y rfl) po pa n co ca w A hr hT hl (by rw [hL2]; exact hw) (by rw [hn, ← hL2, List.length_map])
def ProgL (w : World) (A : Nat → Addr) (x : Option (List (ByteArray × Int) × Nat)) (I : List Int) (e : Ending) (w' : World) : Prop :=
  ∃ p c v, e = .returned (.tuple #[.slice p I.length c, v]) ∧ IntO w.heap.size w' p c I ∧ PChn w' A x v ∧ Below w.heap.size w w'
def RefL (w : World) (x : Option (List (ByteArray × Int) × Nat)) (I : List Int) (e : Ending) (w' : World) : Prop :=
  ∃ p c a po pa n co ca, e = .returned (.tuple #[.slice p I.length c, .agg #[.int .i64 a, .slice po n co, .slice pa n ca]]) ∧ IntO w.heap.size w' p c I ∧ WCg w' x a po pa n co ca ∧ Below w.heap.size w w'
theorem ProgL.ok {w w' : World} {A : Nat → Addr} {x : Option (List (ByteArray × Int) × Nat)} {I : List Int} {e : Ending} (hx : x = none) (h : IntOk w I e w') : ProgL w A x I e w' := by
  obtain ⟨p, c, he, ho, hb⟩ := h
  subst hx
  exact ⟨p, c, _, he, ho, rfl, hb⟩
theorem ProgL.bad {w w' : World} {A : Nat → Addr} {x : Option (List (ByteArray × Int) × Nat)} {I : List Int} {L : List (ByteArray × Int)} {M : Nat} {e : Ending} (hx : x = some (L, M)) (hI : I = []) (h : FErr2 w A L M (.slice none 0 0) e w') : ProgL w A x I e w' := by
  obtain ⟨b, he, hl, hb⟩ := h
  subst hx hI
  exact ⟨none, 0, _, he, IntO.nothing _ _, ⟨b, rfl, hl⟩, hb⟩
end Go.Proofs.YtfgoflaeclfggaaDoor
end
section
namespace Go.Proofs.YtfgoflaeclfggaaDoor
open Go.ChangeShapes Go.WideShapes Go.ChangeAt Go.RowKit NatM

theorem cells32_1 : Tryd.prog.cellsOf 141 = 1 := by kernel_rfl
theorem wf_u32 {n : Int} (h : (Lit.int .u32 n).wf = true) : 0 ≤ n ∧ n < 4294967296 := by
  have := bounds_u32 h
  omega
end Go.Proofs.YtfgoflaeclfggaaDoor
end
section
namespace Go.Proofs.YtfgoflaeclfggaaDoor
open Go.RowKit Go

theorem wp_copyI {o : Oper} {a : Act} {K : Act → World → Prop} {Q : Exit → Act → World → Prop} {w : World} (s x : Operand)
    (ho : o.op = .call { callee := .builtin .append, args := #[s, x], argTypes := #[22, 22] }) (g0 : Nat) (hs : a.eval s = .slice (some ⟨g0, 0, none⟩) 0 0) (h0 : w.heap[g0]? = some (.cells #[] 3 (0, 0)))
    (p : Option Addr) (n c : Nat) (l : List Int) (hx : a.eval x = .slice p n c) (hn : n = l.length) (h : IntV w.heap.size w p c l) (hl : l.length ≤ 17592186043904)
    (hK : ∀ p' c' w', IntO g0 w' p' c' l → Below g0 w w' → K (a.put o.dst (.slice p' n c')) w') : o.wp Tryd.prog a w K Q := by
  obtain ⟨i0, hi, hz0, hz1, hz2⟩ := info_parts infoI
  have hg0 := heap_ltN h0
  have hO0 : IntO g0 w (some ⟨g0, 0, none⟩) 0 [] := IntO.of_block (l := []) (Nat.le_refl _) (Nat.zero_le _) h0
  have hle := h.le
  rcases p with _ | ad
  · have hc := h.nil rfl
    obtain rfl : l = [] := List.eq_nil_of_length_eq_zero (by omega)
    obtain rfl : n = 0 := hn
    subst hc
    have hrun := run_append_owned_none (P := Tryd.prog) w g0 22 o.type 3 i0 1 Tryd.underlying22 hi (.slice (some ⟨g0, 0, none⟩) 0 0) 0 [] hO0
    have := hK _ _ w hO0 (Below.refl _ _)
    unfold Oper.wp execOp
    simp only [ho, resolve, invoke, builtin, Sem.run_bind, Sem.run_pure, Result.andThen_ok, List.map_toArray, List.map_cons, List.map_nil, hs, hx, hrun]
    exact this
  · rcases Nat.eq_zero_or_pos l.length with hl0 | hl0
    · obtain rfl : l = [] := List.eq_nil_of_length_eq_zero hl0
      obtain rfl : n = 0 := hn
      have hrun := run_append_nothing (P := Tryd.prog) w 22 22 o.type 3 i0 Tryd.underlying22 hi (some ⟨g0, 0, none⟩) 0 0 (Nat.le_refl _) (.slice (some ad) 0 c)
        ⟨Or.inl ⟨_, Tryd.underlying22⟩, fun _ => by simp [Builtin.lenOf], by simp [Builtin.firstCells, loadCells, loadCellsFrom], by simp [Builtin.firstCells, loadCells, loadCellsFrom], by simp, fun u hu => by simp at hu⟩
      have := hK _ _ w hO0 (Below.refl _ _)
      unfold Oper.wp execOp
      simp only [ho, resolve, invoke, builtin, Sem.run_bind, Sem.run_pure, Result.andThen_ok, List.map_toArray, List.map_cons, List.map_nil, hs, hx, hrun]
      exact this
    · obtain ⟨b, off, ha, hb, hc⟩ := h.cell (List.length_pos_iff.1 hl0)
      obtain rfl : ad = ⟨b, off, none⟩ := by simpa using ha
      refine wp_append_lies w s x 22 ho g0 3 i0 (.int .i64 0) 1 8 Tryd.underlying22 hi hz0 hz1 hz2 rfl (by decide) _ 0 [] hs hO0 ⟨b, off, none⟩ n c (cI l) hx (by rw [cI_length, hn, Nat.mul_one]) ?_ ?_ (by omega) ?_ ?_ (by omega) w.heap.size rfl ?_
      · intro j u hj
        obtain ⟨y, hy, rfl⟩ : ∃ y, l[j]? = some y ∧ u = .int .i64 y := by
          unfold cI at hj
          rw [List.getElem?_map] at hj
          cases hq : l[j]? with
          | none => rw [hq] at hj; cases hj
          | some y => rw [hq] at hj; exact ⟨y, rfl, (Option.some.inj hj).symm⟩
        rw [add_off]
        exact hc j y hy
      · intro u hu
        obtain ⟨y, _, rfl⟩ := List.mem_map.1 hu
        rfl
      · unfold maxLen; omega
      · omega
      · intro g cap w' hown hgrow _ _
        have hown2 : w'.ownsRow g0 3 1 (.slice (some ⟨g, 0, none⟩) n cap) l.length (cI l) := by
          rw [Nat.zero_add, List.nil_append] at hown
          rw [← hn]; exact hown
        obtain ⟨p', c', he, ho'⟩ := IntO.slice_own hown2
        rw [Nat.zero_add, he, ← hn]
        exact hK p' c' w' ho' ((Below.refl _ _).grown hgrow (by omega) (fun j hj => by have := Option.some.inj hj; simp at this; omega))
theorem step_copyI {ops : Array Oper} {o : Oper} {a : Act} {K : Act → World → Prop} {Q : Exit → Act → World → Prop} {E : Prop} {w : World} (hgd : o.guard = none) (s x : Operand)
    (ho : o.op = .call { callee := .builtin .append, args := #[s, x], argTypes := #[22, 22] }) (g0 : Nat) (hs : a.eval s = .slice (some ⟨g0, 0, none⟩) 0 0) (h0 : w.heap[g0]? = some (.cells #[] 3 (0, 0)))
    (p : Option Addr) (n c : Nat) (l : List Int) (hx : a.eval x = .slice p n c) (hn : n = l.length) (h : IntV w.heap.size w p c l) (hl : l.length ≤ 17592186043904)
    (hK : ∀ p' c' w', IntO g0 w' p' c' l → Below g0 w w' → K (a.put o.dst (.slice p' n c')) w') :
    if Region.wanted o (yielded ops a.tmps) = true then Oper.wp Tryd.prog o a w K Q else E := by
  have hw : Region.wanted o (yielded ops a.tmps) = true := by simp [Region.wanted, hgd]
  rw [if_pos hw]
  exact wp_copyI s x ho g0 hs h0 p n c l hx hn h hl hK
end Go.Proofs.YtfgoflaeclfggaaDoor
end
