/- What the statements of layer 4 share: rules that are held against each other, lent rules, awake.
An argument that is a rule, opened.
An argument that is a list of limbs, opened: it reads a list of numbers below 2^32.
edenraw.Under by its contract: an Err, told further.
The document's own package of words by its contracts: Check.
The document's own package of rules by its contracts: errors, Power, Bad, Size, Check.
The document's own package of rules by its contracts: Check.
append(l, y) in a statement that draws its order: whatever the list, the answer is an own list that reads it with y behind.
The document's own package of rules by its contracts: Value, Image.
The document's own package of rules by its contracts: Digits. -/
import Derived.Test.YtmienemnjikgdaaDoorB5
import Derived.Test.YtmienemnjikgdaaDoorB4
import Derived.Deep.RegionWith
import Derived.Lib.SmallJoins
import Derived.Test.YtmienemnjikgdaaDoorB2
import Derived.ChangeSlices
import Derived.Test.YtmienemnjikgdaaDoorB3
import Derived.Deep.AppendLies
import Derived.Deep.RegionHeld3
import Derived.Deep.DrawnRows
import Derived.Test.YtmienemnjikgdaaDoorB1
section
namespace Go.Proofs.YtmienemnjikgdaaDoor
open Go.RowKit Go.Extern.Stop Go.Stop Go.Extern WordM RuleM NatM

theorem two_boxes (w : World) (a b c a' b' c' : Value) (w0 : World) (hw0 : w0 = (w.alloc (.cells #[a, b, c] 24)).alloc (.cells #[a', b', c'] 24)) :
    Below w.heap.size w w0 ∧ Rul3 w0 w.heap.size a b c ∧ Rul3 w0 (w.heap.size + 1) a' b' c' := by
  have h1 : Below w.heap.size w (w.alloc (.cells #[a, b, c] 24)) := (Below.refl _ _).alloc (Nat.le_refl _) _
  have h2 : Below (w.alloc (.cells #[a, b, c] 24)).heap.size (w.alloc (.cells #[a, b, c] 24)) w0 := by rw [hw0]; exact (Below.refl _ _).alloc (Nat.le_refl _) _
  have hs : (w.alloc (.cells #[a, b, c] 24)).heap.size = w.heap.size + 1 := by simp
  refine ⟨h1.trans (h2.mono h1.size), (Rul3.new w a b c).next h2, ?_⟩
  have := Rul3.new (w.alloc (.cells #[a, b, c] 24)) a' b' c'
  rw [← hw0, hs] at this
  exact this


theorem put3_block (w : World) (h : Nat) (a b c : Value) (g : Nat) (hg : g ≠ h) : (put3 w h a b c).heap[g]? = w.heap[g]? := by
  have set : ∀ (w : World) (i : Nat) (v : Value), (w.setCell ⟨h, i, none⟩ v).heap[g]? = w.heap[g]? := fun w i v => by
    show (w.heap.modify h _)[g]? = _
    rw [Array.getElem?_modify, if_neg (Ne.symm hg)]
  unfold put3
  rw [set, set, set]
/-- a rule whose table is lent -/
def LentR (w : World) (k r : Int) (t : List Int) (e : Ending) (w' : World) : Prop :=
  ∃ g, e = .returned (.agg #[.int .i64 k, .int .i64 r, .slice (some ⟨g, 0, none⟩) t.length (t.length + 2)]) ∧ w.heap.size ≤ g ∧ LentI w' g t ∧ Below w.heap.size w w'
set_option maxRecDepth 100000 in
set_option maxHeartbeats 4000000 in
theorem lentR_any (k r : Int) (p : Option Addr) (n c : Nat) (t : List Int) (w : World) (hn : n = t.length) (h : IntV w.heap.size w p c t) (hl : t.length ≤ 17592186043904) :
    Calls Tryd.prog 9 #[.agg #[.int .i64 k, .int .i64 r, .slice p n c]] w (LentR w k r t) := by
  have hlent : ∀ W, IntV W.heap.size W p c t → Calls Tryd.prog 16 #[.slice p n c] W (LentPostI W t) := fun W hW => by rw [hn]; exact lentI_any p c t W hW hl
  unfold LentPostI at hlent
  unfold LentR
  rw [← hn]
  simp only [← hn] at hlent
  have H := Lib.hid (And.intro h (And.intro hlent hn))
  clear h hlent hl hn
  go_enter Tryd.func9, Tryd.ntmps9
  go_upto_region 1 with fail
  obtain ⟨w0, hw0⟩ : ∃ w0, w0 = (w.alloc (.cells #[.int .i64 k, .int .i64 r, .slice p n c] 24)).alloc (.cells #[.int .i64 0, .int .i64 0, .slice none 0 0] 24) := ⟨_, rfl⟩
  obtain ⟨hb0, hE0, hE1⟩ := two_boxes w _ _ _ _ _ _ w0 hw0
  rw [← hw0]
  have hsz : (w.alloc (.cells #[.int .i64 k, .int .i64 r, .slice p n c] 24)).heap.size = w.heap.size + 1 := by simp
  have hs0 := hb0.size
  have hs1 := hE1.lt
  have hlen : ∀ wx, Below w0.heap.size w0 wx → Calls Tryd.prog 16 #[.slice p n c] wx fun e w' => e = .returned (.slice (some ⟨wx.heap.size, 0, none⟩) n (n + 2)) ∧ LentI w' wx.heap.size t ∧ Below wx.heap.size wx w' := fun wx hb => H.out.2.1 wx ((H.out.1.next hb0).next hb)
  have hxA : ∀ wx : World, Below w0.heap.size w0 wx → wx.cell? ⟨w.heap.size, 0, none⟩ = some (.int .i64 k) := fun wx hbx => (hE0.next hbx).facts.2.1
  have hxB : ∀ wx : World, Below w0.heap.size w0 wx → wx.cell? ⟨w.heap.size, 1, none⟩ = some (.int .i64 r) := fun wx hbx => (hE0.next hbx).facts.2.2.1
  have hxC : ∀ wx : World, Below w0.heap.size w0 wx → wx.cell? ⟨w.heap.size, 2, none⟩ = some (.slice p n c) := fun wx hbx => (hE0.next hbx).facts.2.2.2
  have hd0 : Below w0.heap.size w0 w0.drew := (Below.refl _ _).drew
  have HE := Lib.hid (And.intro hE1 hb0)
  clear hw0 hE0 hE1 hb0
  go_region_held3 (fun w' => w'.cell? ⟨w.heap.size, 0, none⟩ = some (.int .i64 k) ∧ w'.cell? ⟨w.heap.size, 1, none⟩ = some (.int .i64 r) ∧ w'.cell? ⟨w.heap.size, 2, none⟩ = some (.slice p n c)) (first | exact ⟨hxA _ hd0, hxB _ hd0, hxC _ hd0⟩ | exact ⟨hxA _ (Below.refl _ _), hxB _ (Below.refl _ _), hxC _ (Below.refl _ _)⟩ | exact ⟨hA1, hB1, hC1⟩ | go_keep) (first | (go_at_call 16; refine (hlen _ (by first | exact hd0 | exact Below.refl _ _)).mono ?_; rintro e wl ⟨rfl, hLl, hbl⟩; have hBl : Below w0.heap.size w0 wl := (by first | exact hd0.trans (hbl.mono hd0.size) | exact hbl); have hA1 := hxA wl hBl; have hB1 := hxB wl hBl; have hC1 := hxC wl hBl; obtain ⟨⟨hf0, hf1, hf2⟩, hz0, hz1, hz2⟩ := (HE.out.1.next hBl).facts))
  all_goals
    have HF := Lib.hid (And.intro hLl (HE.out.2.trans (hBl.mono (by omega))))
    clear hxA hxB hxC hlen hbl hBl hLl hA1 hB1 hC1
    go_wp2_with fail
    refine bodyPost_ret (v := .agg #[.int .i64 k, .int .i64 r, .slice (some ⟨w0.heap.size, 0, none⟩) n (n + 2)]) (by simp [results, Tryd.results9, go_sem, hz0, hz1, hz2]) rfl ⟨w0.heap.size, rfl, hs0, ?_, ?_⟩
    · exact LentI.block (put3_block wl (w.heap.size + 1) _ _ _ _ (by omega)) HF.out.1
    · exact put3_below HF.out.2 (by omega) _ _ _

set_option maxRecDepth 100000 in
set_option maxHeartbeats 2000000 in
theorem keptR_any (g : Nat) (k r : Int) (p : Option Addr) (n m c : Nat) (t : List Int) (w : World) (hg : LentI w g t) (h : IntV w.heap.size w p c t) (hl : t.length ≤ 17592186043904) (hn : n = t.length) (hm : m = t.length + 2) :
    Calls Tryd.prog 15 #[.agg #[.int .i64 k, .int .i64 r, .slice (some ⟨g, 0, none⟩) n m], .agg #[.int .i64 k, .int .i64 r, .slice p n c]] w (Tells (.bool true) w) := by
  have H := Lib.hid (And.intro h (And.intro hg (And.intro hn (And.intro hm hl))))
  clear h hg hn hm hl
  go_enter Tryd.func15, Tryd.ntmps15
  go_upto_region 1 with fail
  obtain ⟨w0, hw0⟩ : ∃ w0, w0 = (w.alloc (.cells #[.int .i64 k, .int .i64 r, .slice (some ⟨g, 0, none⟩) n m] 24)).alloc (.cells #[.int .i64 k, .int .i64 r, .slice p n c] 24) := ⟨_, rfl⟩
  obtain ⟨hb0, hE0, hE1⟩ := two_boxes w _ _ _ _ _ _ w0 hw0
  rw [← hw0]
  obtain ⟨_, hc0, hc1, hc2⟩ := hE0.facts
  obtain ⟨_, hd0, hd1, hd2⟩ := hE1.facts
  have HE := Lib.hid hb0
  have hsz : (w.alloc (.cells #[.int .i64 k, .int .i64 r, .slice (some ⟨g, 0, none⟩) n m] 24)).heap.size = w.heap.size + 1 := by simp
  clear hw0 hE0 hE1 hb0
  go_wp2_with fail
  have hk := keptI_any g p n m c t w0 (H.out.2.1.below HE.out) (H.out.1.next HE.out) H.out.2.2.2.2 H.out.2.2.1 H.out.2.2.2.1
  rw [← H.out.2.2.1] at hk
  refine hk.mono ?_
  rintro e w1 ⟨rfl, hb1⟩
  have HF := Lib.hid (HE.out.trans (hb1.mono HE.out.size))
  clear hb1 hk
  go_wp2_with fail
  go_ret
  exact ⟨rfl, HF.out⟩

def T110 : List Int := [0, 1, 1, 1, 0, 1, 1, 0]
def txt110 : ByteArray := { data := #[50, 46, 49, 46, 49, 49, 48] }
def ParsePost110 (w : World) (e : Ending) (w' : World) : Prop :=
  ∃ p c, e = .returned (.tuple #[.agg #[.int .i64 2, .int .i64 1, .slice p 8 c], .nilIface]) ∧ IntO w.heap.size w' p c T110 ∧ Below w.heap.size w w'
theorem ok110 : OkR 2 1 T110 := ⟨by decide, by decide, by decide, by decide, fun x hx => by unfold T110 at hx; simp at hx; omega⟩
def W5 : List Int := [0, 0, 1, 1, 1]
theorem ok5 : okW 2 W5 := fun x hx => by unfold W5 at hx; simp at hx; omega
theorem img110 : imgW 2 1 T110 W5 = [1, 1, 0] := by decide +kernel
theorem step_110 (p q : Option Addr) (c d : Nat) (w : World) (h : IntV w.heap.size w p c T110) (hl : IntV w.heap.size w q d W5) :
    Calls Tryd.prog 23 #[.agg #[.int .i64 2, .int .i64 1, .slice p 8 c], .slice q 5 d] w (IntOk w [1, 1, 0]) := by
  have := step_ok 2 1 p q 8 c 5 d T110 W5 w rfl rfl h hl (chkT_ok ok110 (by decide) ok5)
  have e : imgW (2 : Int).toNat (1 : Int).toNat T110 W5 = [1, 1, 0] := img110
  rwa [e] at this
theorem check_5 (w : World) (A : Nat → Addr) (hr : Roots w A) : Calls Tryd.prog 48 #[.agg #[.int .i64 5, .int .i64 0, .slice none 0 0]] w (Err1 w A ruleOp 0 1) :=
  rcheck_bad 5 0 none 0 0 [] w A hr rfl (IntV.nothing w) 0 (by decide)

end Go.Proofs.YtmienemnjikgdaaDoor
end
section
namespace Go.Proofs.YtmienemnjikgdaaDoor
open Go.ChangeShapes Go.WideShapes Go.ChangeAt Go.RowKit WordM RuleM

theorem fld_int {H : Type} {enc : TypeId × Value → H} {W : World} {n : Nat} {c : Value} {y : DataW H × List MemPlace} (h : DataW.trod enc Tryd.prog W 0 (fun _ => true) true n 3 [c] = some y) : ∃ x : Int, c = .int .i64 x ∧ -9223372036854775808 ≤ x ∧ x ≤ 9223372036854775807 := by
  obtain ⟨x, hx, _, hw⟩ := DataW.trod_int Tryd.underlying3 h
  exact ⟨x, by simpa using hx, wf_i64 hw⟩
theorem fld_ints {H : Type} {enc : TypeId × Value → H} {W : World} {n : Nat} {c : Value} {y : DataW H × List MemPlace} (h : DataW.trod enc Tryd.prog W 0 (fun _ => true) true n 22 [c] = some y) (hlt : ∀ x ∈ y.2, x.block < W.heap.size) (hw : ∀ x ∈ y.1.weights Tryd.prog 22, x ≤ reachBytes) :
    ∃ (a : Option Addr) (cap : Nat) (l : List Int), c = .slice a l.length cap ∧ IntV W.heap.size W a cap l ∧ okI l ∧ l.length ≤ 17592186043904 := by
  have hs : ∃ a len cap, c = .slice a len cap := by
    rcases Go.Deep.open_slice Tryd.underlying22 h with ⟨hcs, _⟩ | ⟨a, len, cap, _, _, _, _, hcs, _⟩
    · exact ⟨none, 0, 0, by simpa using hcs⟩
    · exact ⟨some a, len, cap, by simpa using hcs⟩
  have ht : DataW.Trod enc Tryd.prog W 0 (fun _ => true) true 22 c y.1 y.2 := by
    refine ⟨n, ?_⟩
    obtain ⟨a, len, cap, rfl⟩ := hs
    simpa [Value.cells] using h
  obtain ⟨a, cap, l, rfl, h1, h2⟩ := open_intl hs ht hlt
  exact ⟨a, cap, l, rfl, h1, h2, open_reach ht hw⟩
theorem cellsRule3 : Tryd.prog.cellsOf 24 = 3 := by kernel_rfl
set_option maxRecDepth 100000 in
/-- a rule that came in: its table's length is in reach -/
theorem open_rule {H : Type} {enc : TypeId × Value → H} {W : World} {v : Value} {d : DataW H} {p : List MemPlace} {r : Reach} {b0 : Nat} (hv : Value.okWide Tryd.prog W r b0 24 v)
    (h : DataW.Trod enc Tryd.prog W 0 (fun _ => true) true 24 v d p) (hlt : ∀ x ∈ p, x.block < W.heap.size) (hw : ∀ x ∈ d.weights Tryd.prog 24, x ≤ reachBytes) :
    ∃ (k r : Int) (a : Option Addr) (cap : Nat) (l : List Int), v = .agg #[.int .i64 k, .int .i64 r, .slice a l.length cap] ∧ IntV W.heap.size W a cap l ∧ l.length ≤ 17592186043904 := by
  obtain ⟨v0, v1, v2, y0, y1, y2, n, rfl, rfl, rfl, h0, h1, h2⟩ := Go.Joins.open_agg3 Tryd.underlying24 (by kernel_rfl) cellsRule3 hv h
  obtain ⟨k, rfl, _⟩ := fld_int h0
  obtain ⟨q, rfl, _⟩ := fld_int h1
  obtain ⟨a, cap, l, rfl, h3, _, h4⟩ := fld_ints h2 (fun x hx => hlt x (by simp [hx])) (fun x hx => hw x (by
    unfold DataW.weights
    rw [Tryd.underlying24]
    exact weights_get _ _ 2 _ _ rfl rfl x hx))
  exact ⟨k, q, a, cap, l, rfl, h3, h4⟩
end Go.Proofs.YtmienemnjikgdaaDoor
end
section
namespace Go.Proofs.YtmienemnjikgdaaDoor
open Go.ChangeShapes Go.WideShapes Go.ChangeAt Go.RowKit NatM

theorem cells32_1 : Tryd.prog.cellsOf 144 = 1 := by kernel_rfl
theorem wf_u32 {n : Int} (h : (Lit.int .u32 n).wf = true) : 0 ≤ n ∧ n < 4294967296 := by
  have := bounds_u32 h
  omega
end Go.Proofs.YtmienemnjikgdaaDoor
end
section
namespace Go.Proofs.YtmienemnjikgdaaDoor
open Go.RowKit Go.Extern.Stop Go.Stop Go.Extern
attribute [local go_sem ↓] Go.wp_at_zero Go.wp_at_succ

theorem infoSt : (Tryd.prog.info? 9).map (fun i => (i.zero, i.size, i.bytes)) = some (some (.string ⟨#[]⟩), 1, 16) := by kernel_rfl
def cS (L : List (ByteArray × Int)) : List Value := L.map fun x => Value.string x.1
def cA (L : List (ByteArray × Int)) : List Value := L.map fun x => Value.int .i64 x.2
theorem own_lit {e : TypeId} {w : World} {v : Value} {base g : Nat} (hb : base ≤ g) (h : w.heap[g]? = some (.cells #[v] e (0, 0))) : w.ownsRow base e 1 (.slice (some ⟨g, 0, none⟩) 1 1) 1 [v] :=
  ⟨rfl, Or.inr ⟨g, 1, #[v], rfl, hb, h, Nat.le_refl _, by decide, rfl, rfl⟩⟩
theorem other_row {w : World} {b b' : Nat} {e e' : TypeId} {v v' : Value} {n n' : Nat} {xs xs' : List Value} (h : w.ownsRow b e 1 v n xs) (h' : w.ownsRow b' e' 1 v' n' xs') (hne : e ≠ e') : v.ownBlock = none ∨ v.ownBlock ≠ v'.ownBlock := by
  rcases h.2 with ⟨rfl, _⟩ | ⟨g, cap, cur, rfl, _, hh, _⟩
  · exact Or.inl rfl
  · right
    rcases h'.2 with ⟨rfl, _⟩ | ⟨g', cap', cur', rfl, _, hh', _⟩
    · simp [Value.ownBlock]
    · intro hq
      have : g = g' := by simpa [Value.ownBlock] using hq
      subst this
      rw [hh] at hh'
      injection hh' with hh'
      injection hh' with _ ht
      exact hne ht
theorem WantV.news {w wx : World} {po pa : Option Addr} {co ca : Nat} {L : List (ByteArray × Int)} (h : WantV w po pa co ca L) (hb : Below w.heap.size w wx) (hL : L ≠ []) :
    ∃ bo oo ba oa, po = some ⟨bo, oo, none⟩ ∧ pa = some ⟨ba, oa, none⟩ ∧ (∀ j u, (cS L)[j]? = some u → wx.cell? ((⟨bo, oo, none⟩ : Addr).add j) = some u) ∧ (∀ j u, (cA L)[j]? = some u → wx.cell? ((⟨ba, oa, none⟩ : Addr).add j) = some u) := by
  have h' := h.below hb
  obtain ⟨bo, oo, rfl, _, hco⟩ := h'.ops hL
  obtain ⟨ba, oa, rfl, _, hca⟩ := h'.ats hL
  refine ⟨bo, oo, ba, oa, rfl, rfl, fun j u hu => ?_, fun j u hu => ?_⟩
  · unfold cS at hu
    rw [List.getElem?_map] at hu
    obtain ⟨x, hx, rfl⟩ := Option.map_eq_some_iff.1 hu
    rw [add_off]
    exact hco j x hx
  · unfold cA at hu
    rw [List.getElem?_map] at hu
    obtain ⟨x, hx, rfl⟩ := Option.map_eq_some_iff.1 hu
    rw [add_off]
    exact hca j x hx
/-- two own rows make an Err's two slices -/
theorem WantV.of_own {w : World} {base g g' m c c' : Nat} {L : List (ByteArray × Int)} (hm : m = L.length) (hc : c ≤ maxLen) (hc' : c' ≤ maxLen) (h : w.ownsRow base 9 1 (.slice (some ⟨g, 0, none⟩) m c) m (cS L)) (h' : w.ownsRow base 3 1 (.slice (some ⟨g', 0, none⟩) m c') m (cA L)) (hle : m ≤ c) (hle' : m ≤ c') (hg : g < w.heap.size) (hg' : g' < w.heap.size) :
    WantV w (some ⟨g, 0, none⟩) (some ⟨g', 0, none⟩) c c' L := by
  subst hm
  refine ⟨fun _ => ⟨g, 0, rfl, hg, fun j x hx => ?_⟩, fun _ => ⟨g', 0, rfl, hg', fun j x hx => ?_⟩, hle, hle', hc, hc'⟩
  · have hl := (List.getElem?_eq_some_iff.1 hx).1
    rw [Nat.zero_add]
    refine (h.cellAt j (by omega)).trans ?_
    unfold cS
    rw [List.getElem?_map, hx]; rfl
  · have hl := (List.getElem?_eq_some_iff.1 hx).1
    rw [Nat.zero_add]
    refine (h'.cellAt j (by omega)).trans ?_
    unfold cA
    rw [List.getElem?_map, hx]; rfl
/-- a literal of one value, and a row behind it: in a region that draws its order -/
theorem step_lit {ops : Array Oper} {o : Oper} {a : Act} {K : Act → World → Prop} {Q : Exit → Act → World → Prop} {E : Prop} {w : World} (t e : TypeId) (i0 : TypeInfo) (z : Value) (bytes : Nat) (hgd : o.guard = none) (s x : Operand)
    (ho : o.op = .call { callee := .builtin .append, args := #[s, x], argTypes := #[t, t] })
    (ht : Tryd.prog.underlying t = some (.slice e)) (hi : Tryd.prog.info? e = some i0) (hz0 : i0.zero = some z) (hz1 : i0.size = 1) (hz2 : i0.bytes = bytes) (hz : z.cells.size = 1) (hb16 : bytes ≤ 16)
    (base g : Nat) (v : Value) (hs : a.eval s = .slice (some ⟨g, 0, none⟩) 1 1) (hg : base ≤ g) (hh : w.heap[g]? = some (.cells #[v] e (0, 0)))
    (ad : Addr) (n c : Nat) (vs : List Value) (hx : a.eval x = .slice (some ad) n c) (hl : vs.length = n * 1) (hv : ∀ j u, vs[j]? = some u → w.cell? (ad.add j) = some u) (h1 : ∀ u ∈ vs, u.oneCell' = true) (hn : 0 < n) (hn2 : n ≤ 1000) (hB : base ≤ w.heap.size)
    (hK : ∀ g' c' w', w'.ownsRow base e 1 (.slice (some ⟨g', 0, none⟩) (1 + n) c') (1 + n) (v :: vs) → w.grownBy w' (some g) → Below base w w' → K (a.put o.dst (.slice (some ⟨g', 0, none⟩) (1 + n) c')) w') :
    if Region.wanted o (yielded ops a.tmps) = true then Oper.wp Tryd.prog o a w K Q else E := by
  have hw : Region.wanted o (yielded ops a.tmps) = true := by simp [Region.wanted, hgd]
  rw [if_pos hw]
  have hown := own_lit hg hh
  refine wp_append_lies w s x t ho base e i0 z 1 bytes ht hi hz0 hz1 hz2 hz (by decide) _ 1 [v] hs hown ad n c vs hx hl hv h1 hn (by unfold maxLen; omega) ?_ hB w.heap.size rfl ?_
  · have : (1 + n) * bytes ≤ 1001 * 16 := Nat.mul_le_mul (by omega) hb16
    omega
  · intro g' c' w' hown' hgrow _ _
    exact hK g' c' w' hown' hgrow ((Below.refl _ _).grown hgrow hB (fun j hj => (World.ownsRow.lt hown j hj).1))
theorem own_put3 {w : World} {base h : Nat} {e : TypeId} {v : Value} {n : Nat} {xs : List Value} (ho : w.ownsRow base e 1 v n xs) (hh : h < base) (a b d : Value) : (put3 w h a b d).ownsRow base e 1 v n xs :=
  ownsRow_setCell_below (ownsRow_setCell_below (ownsRow_setCell_below ho (a := ⟨h, 0, none⟩) hh a) (a := ⟨h, 1, none⟩) hh b) (a := ⟨h, 2, none⟩) hh d
theorem WantV.of_rows {w : World} {base g g' m c c' : Nat} {L : List (ByteArray × Int)} (hm : m = L.length) (h0 : 0 < m) (h : w.ownsRow base 9 1 (.slice (some ⟨g, 0, none⟩) m c) m (cS L)) (h' : w.ownsRow base 3 1 (.slice (some ⟨g', 0, none⟩) m c') m (cA L)) :
    WantV w (some ⟨g, 0, none⟩) (some ⟨g', 0, none⟩) c c' L := by
  rcases own_shape h with ⟨hv, h1, _⟩ | ⟨x, cap, hv, _, hlt, hc, hmx, _⟩
  · omega
  · rcases own_shape h' with ⟨hv', h1', _⟩ | ⟨x', cap', hv', _, hlt', hc', hmx', _⟩
    · omega
    · obtain ⟨rfl, rfl⟩ : g = x ∧ c = cap := by simpa using hv
      obtain ⟨rfl, rfl⟩ : g' = x' ∧ c' = cap' := by simpa using hv'
      exact WantV.of_own hm hmx hmx' h h' hc hc' hlt hlt'
/-- what an Err says, told further -/
def UnderPost (w : World) (a : Int) (L : List (ByteArray × Int)) (e : Ending) (w' : World) : Prop :=
  ∃ go ga co ca, e = .returned (.agg #[.int .i64 a, .slice (some ⟨go, 0, none⟩) L.length co, .slice (some ⟨ga, 0, none⟩) L.length ca]) ∧ w.heap.size ≤ go ∧ w.heap.size ≤ ga ∧ WantV w' (some ⟨go, 0, none⟩) (some ⟨ga, 0, none⟩) co ca L ∧ Below w.heap.size w w'
theorem two_errs (w : World) (a b c x y z : Value) (w0 : World) (hw0 : w0 = (w.alloc (.cells #[a, b, c] 33)).alloc (.cells #[x, y, z] 33)) :
    Below w.heap.size w w0 ∧ Err3 w0 w.heap.size a b c ∧ Err3 w0 (w.heap.size + 1) x y z := by
  have h1 : Below w.heap.size w (w.alloc (.cells #[a, b, c] 33)) := (Below.refl _ _).alloc (Nat.le_refl _) _
  have h2 : Below (w.alloc (.cells #[a, b, c] 33)).heap.size (w.alloc (.cells #[a, b, c] 33)) w0 := by rw [hw0]; exact (Below.refl _ _).alloc (Nat.le_refl _) _
  have hs : (w.alloc (.cells #[a, b, c] 33)).heap.size = w.heap.size + 1 := by simp
  have h3 : Err3 w0 (w.alloc (.cells #[a, b, c] 33)).heap.size x y z := by rw [hw0]; exact ⟨heap_alloc_new _ _⟩
  rw [hs] at h3
  have h4 : Err3 (w.alloc (.cells #[a, b, c] 33)) w.heap.size a b c := ⟨heap_alloc_new _ _⟩
  exact ⟨h1.trans (h2.mono h1.size), h4.next h2, h3⟩
set_option maxRecDepth 100000 in
set_option maxHeartbeats 4000000 in
theorem under_ref (op : ByteArray) (pl a : Int) (po pa : Option Addr) (n co ca : Nat) (L : List (ByteArray × Int)) (w : World) (ha : a ≠ 0) (hn : n = L.length) (h1 : 1 ≤ n) (hn2 : n ≤ 1000) (h : WantV w po pa co ca L) :
    Calls Tryd.prog 58 #[.string op, .int .i64 pl, .agg #[.int .i64 a, .slice po n co, .slice pa n ca]] w (UnderPost w a ((op, pl) :: L)) := by
  have ST := Lib.hid (two_errs w (.int .i64 a) (.slice po n co) (.slice pa n ca) (.int .i64 0) (.slice none 0 0) (.slice none 0 0))
  have H := Lib.hid (And.intro hn (And.intro h1 h))
  clear hn h
  go_enter Tryd.func58, Tryd.ntmps58
  go_upto_region 1 with fail
  obtain ⟨w0, hw0⟩ : ∃ w0, w0 = (w.alloc (.cells #[.int .i64 a, .slice po n co, .slice pa n ca] 33)).alloc (.cells #[.int .i64 0, .slice none 0 0, .slice none 0 0] 33) := ⟨_, rfl⟩
  rw [← hw0]
  obtain ⟨hb0, hE0, hF0⟩ := ST.out w0 hw0
  obtain ⟨_, hc0, hc1, hc2⟩ := hE0.facts
  have hfa : ∀ wx : World, Below w0.heap.size w0 wx → wx.cell? ⟨w.heap.size, 0, none⟩ = some (.int .i64 a) ∧ wx.cell? ⟨w.heap.size, 1, none⟩ = some (.slice po n co) ∧ wx.cell? ⟨w.heap.size, 2, none⟩ = some (.slice pa n ca) := fun wx hbx => (hE0.next hbx).facts.2
  have hff : ∀ wx : World, Below w0.heap.size w0 wx → wx.frozen? ⟨w.heap.size + 1, 0, none⟩ = false ∧ wx.frozen? ⟨w.heap.size + 1, 1, none⟩ = false ∧ wx.frozen? ⟨w.heap.size + 1, 2, none⟩ = false := fun wx hbx => (hF0.next hbx).facts.1
  have hfc : ∀ wx : World, Below w0.heap.size w0 wx → wx.cell? ⟨w.heap.size + 1, 0, none⟩ = some (.int .i64 0) ∧ wx.cell? ⟨w.heap.size + 1, 1, none⟩ = some (.slice none 0 0) ∧ wx.cell? ⟨w.heap.size + 1, 2, none⟩ = some (.slice none 0 0) := fun wx hbx => (hF0.next hbx).facts.2
  have HE := Lib.hid (And.intro hb0 (And.intro hE0 hF0))
  clear hw0 hE0 hb0 hF0
  go_wp2_with fail
  have hL0 : L ≠ [] := by have := H.out.1; rintro rfl; simp at this; omega
  obtain ⟨bo, oo, ba, oa, hpo, hpa, _, _⟩ := H.out.2.2.news (Below.refl _ _) hL0
  subst hpo hpa
  have hnS : ∀ wx : World, Below w0.heap.size w0 wx → ∀ j u, (cS L)[j]? = some u → wx.cell? ((⟨bo, oo, none⟩ : Addr).add j) = some u := fun wx hbx => by
    obtain ⟨_, _, _, _, e1, e2, h1, _⟩ := H.out.2.2.news (HE.out.1.trans (hbx.mono HE.out.1.size)) hL0
    cases e1; exact h1
  have hnA : ∀ wx : World, Below w0.heap.size w0 wx → ∀ j u, (cA L)[j]? = some u → wx.cell? ((⟨ba, oa, none⟩ : Addr).add j) = some u := fun wx hbx => by
    obtain ⟨_, _, _, _, e1, e2, _, h2⟩ := H.out.2.2.news (HE.out.1.trans (hbx.mono HE.out.1.size)) hL0
    cases e2; exact h2
  have hlS : (cS L).length = n * 1 := by unfold cS; rw [List.length_map, Nat.mul_one]; exact H.out.1.symm
  have hlA : (cA L).length = n * 1 := by unfold cA; rw [List.length_map, Nat.mul_one]; exact H.out.1.symm
  have hoS : ∀ u ∈ cS L, u.oneCell' = true := fun u hu => by unfold cS at hu; obtain ⟨x, _, rfl⟩ := List.mem_map.1 hu; rfl
  have hoA : ∀ u ∈ cA L, u.oneCell' = true := fun u hu => by unfold cA at hu; obtain ⟨x, _, rfl⟩ := List.mem_map.1 hu; rfl
  have h1n : 0 < n := h1
  obtain ⟨iS, hiS, hzS0, hzS1, hzS2⟩ := info_parts infoSt
  obtain ⟨iA, hiA, hzA0, hzA1, hzA2⟩ := info_parts infoI
  have hd0 : Below w0.heap.size w0 w0.drew := (Below.refl _ _).drew
  have hB : w.heap.size + 1 < w0.heap.size := heap_ltN HE.out.2.2.heap
  have hs0 : w.heap.size < w0.heap.size := by omega
  have HH := Lib.hid (And.intro hnS (And.intro hnA (And.intro hlS (And.intro hlA (And.intro hoS (And.intro hoA (And.intro hfa (And.intro hff hfc))))))))
  clear hnS hnA hlS hlA hoS hoA hfa hff hfc
  have h16 : (16 : Nat) ≤ 16 := Nat.le_refl _
  have h8 : (8 : Nat) ≤ 16 := by omega
  obtain ⟨WS, hWS⟩ : ∃ x, x = w0.alloc (.cells #[.string op] 9) := ⟨_, rfl⟩
  obtain ⟨WA, hWA⟩ : ∃ x, x = w0.alloc (.cells #[.int .i64 pl] 3) := ⟨_, rfl⟩
  have sS : WS.heap.size = w0.heap.size + 1 := by rw [hWS]; simp
  have sA : WA.heap.size = w0.heap.size + 1 := by rw [hWA]; simp
  have lS : WS.heap[w0.heap.size]? = some (.cells #[.string op] 9 (0, 0)) := by rw [hWS]; exact heap_newN w0 _
  have lA : WA.heap[w0.heap.size]? = some (.cells #[.int .i64 pl] 3 (0, 0)) := by rw [hWA]; exact heap_newN w0 _
  have bS : Below w0.heap.size w0 WS := by rw [hWS]; exact (Below.refl w0.heap.size w0).alloc (Nat.le_refl _) _
  have bA : Below w0.heap.size w0 WA := by rw [hWA]; exact (Below.refl w0.heap.size w0).alloc (Nat.le_refl _) _
  have hal : ∀ w1 : World, (w1.alloc (.cells #[.int .i64 pl] 3)).heap[w1.heap.size]? = some (.cells #[.int .i64 pl] 3 (0, 0)) := fun w1 => heap_newN w1 _
  have hbl : ∀ w1 : World, Below w1.heap.size w1 (w1.alloc (.cells #[.int .i64 pl] 3)) := fun w1 => (Below.refl w1.heap.size w1).alloc (Nat.le_refl _) _
  -- two literals, the words first
  have b2 : Below w0.heap.size w0 (WS.alloc (.cells #[.int .i64 pl] 3)) := bS.trans ((hbl WS).mono bS.size)
  have l2S : (WS.alloc (.cells #[.int .i64 pl] 3)).heap[w0.heap.size]? = some (.cells #[.string op] 9 (0, 0)) := ((hbl WS).block _ (by omega)).trans lS
  have l2A : (WS.alloc (.cells #[.int .i64 pl] 3)).heap[w0.heap.size + 1]? = some (.cells #[.int .i64 pl] 3 (0, 0)) := by have := hal WS; rwa [sS] at this
  -- two literals, the places first
  have bb : Below WA.heap.size WA (WA.alloc (.cells #[.string op] 9)) := (Below.refl _ WA).alloc (Nat.le_refl _) _
  have b3 : Below w0.heap.size w0 (WA.alloc (.cells #[.string op] 9)) := bA.trans (bb.mono bA.size)
  have l3A : (WA.alloc (.cells #[.string op] 9)).heap[w0.heap.size]? = some (.cells #[.int .i64 pl] 3 (0, 0)) := (bb.block _ (by omega)).trans lA
  have l3S : (WA.alloc (.cells #[.string op] 9)).heap[w0.heap.size + 1]? = some (.cells #[.string op] 9 (0, 0)) := by have := heap_newN WA (.cells #[.string op] 9); rwa [sA] at this
  have z2 : (WS.alloc (.cells #[.int .i64 pl] 3)).heap.size = w0.heap.size + 2 := by simp [sS]
  have z3 : (WA.alloc (.cells #[.string op] 9)).heap.size = w0.heap.size + 2 := by simp [sA]
  rw [hWS] at b2 l2S l2A z2 lS bS
  rw [hWA] at b3 l3A l3S z3
  have b1 := bS.drew
  have b2 := b2.drew
  have b3 := b3.drew
  have lS : ((w0.alloc (.cells #[.string op] 9)).drew).heap[w0.heap.size]? = some (.cells #[.string op] 9 (0, 0)) := lS
  have l2S : (((w0.alloc (.cells #[.string op] 9)).alloc (.cells #[.int .i64 pl] 3)).drew).heap[w0.heap.size]? = some (.cells #[.string op] 9 (0, 0)) := l2S
  have l2A : (((w0.alloc (.cells #[.string op] 9)).alloc (.cells #[.int .i64 pl] 3)).drew).heap[w0.heap.size + 1]? = some (.cells #[.int .i64 pl] 3 (0, 0)) := l2A
  have l3S : (((w0.alloc (.cells #[.int .i64 pl] 3)).alloc (.cells #[.string op] 9)).drew).heap[w0.heap.size + 1]? = some (.cells #[.string op] 9 (0, 0)) := l3S
  have l3A : (((w0.alloc (.cells #[.int .i64 pl] 3)).alloc (.cells #[.string op] 9)).drew).heap[w0.heap.size]? = some (.cells #[.int .i64 pl] 3 (0, 0)) := l3A
  have z2 : (((w0.alloc (.cells #[.string op] 9)).alloc (.cells #[.int .i64 pl] 3)).drew).heap.size = w0.heap.size + 2 := z2
  have z3 : (((w0.alloc (.cells #[.int .i64 pl] 3)).alloc (.cells #[.string op] 9)).drew).heap.size = w0.heap.size + 2 := z3
  have hle1 : w0.heap.size ≤ w0.heap.size + 1 := Nat.le_succ _
  have hzlt : w0.heap.size + 1 < w0.heap.size + 2 := by omega
  have hzlt0 : w0.heap.size < w0.heap.size + 2 := by omega
  have hne1 : some (w0.heap.size + 1) ≠ some w0.heap.size := by simp
  have hne0 : some w0.heap.size ≠ some (w0.heap.size + 1) := by simp
  have hne : 9 ≠ 3 := by decide
  have P1 := Lib.hid (And.intro lS (And.intro b1 (And.intro hal hbl)))
  have P2 := Lib.hid (And.intro b2 (And.intro l2S (And.intro l2A z2)))
  have P3 := Lib.hid (And.intro b3 (And.intro l3A (And.intro l3S z3)))
  have Q := Lib.hid (And.intro hle1 (And.intro hzlt (And.intro hzlt0 (And.intro hne1 (And.intro hne0 hne)))))
  clear hWS hWA sS sA lS lA bS bA b1 hal hbl b2 l2S l2A bb b3 l3A l3S z2 z3 hle1 hzlt hzlt0 hne1 hne0 hne
  go_region_held3 (fun w' => w'.cell? ⟨w.heap.size, 0, none⟩ = some (.int .i64 a) ∧ w'.cell? ⟨w.heap.size, 1, none⟩ = some (.slice (some ⟨bo, oo, none⟩) n co) ∧ w'.cell? ⟨w.heap.size, 2, none⟩ = some (.slice (some ⟨ba, oa, none⟩) n ca)) (first | exact HH.out.2.2.2.2.2.2.1 _ (by assumption) | exact HH.out.2.2.2.2.2.2.1 _ hd0 | go_keep) (first
    | (refine step_lit 31 9 iS _ 16 (by rfl) _ _ (by rfl) Tryd.underlying31 hiS hzS0 hzS1 hzS2 (by rfl) h16 w0.heap.size w0.heap.size (.string op) (by rfl) (Nat.le_refl _) P1.out.1 ⟨bo, oo, none⟩ n co (cS L) (by rfl) HH.out.2.2.1 (HH.out.1 _ P1.out.2.1) HH.out.2.2.2.2.1 h1n hn2 P1.out.2.1.size ?_; intro gs cs w1 hS1 _ hgS; have hB1 : Below w0.heap.size w0 w1 := P1.out.2.1.trans hgS)
    | (refine step_lit 31 9 iS _ 16 (by rfl) _ _ (by rfl) Tryd.underlying31 hiS hzS0 hzS1 hzS2 (by rfl) h16 w0.heap.size w0.heap.size (.string op) (by rfl) (Nat.le_refl _) P2.out.2.1 ⟨bo, oo, none⟩ n co (cS L) (by rfl) HH.out.2.2.1 (HH.out.1 _ P2.out.1) HH.out.2.2.2.2.1 h1n hn2 P2.out.1.size ?_; intro gs cs u1 hS1 hrS hgS; have hB1 : Below w0.heap.size w0 u1 := P2.out.1.trans hgS; have hAl := (hrS.block (w0.heap.size + 1) (by rw [P2.out.2.2.2]; exact Q.out.2.1) Q.out.2.2.2.1).trans P2.out.2.2.1)
    | (refine step_lit 31 9 iS _ 16 (by rfl) _ _ (by rfl) Tryd.underlying31 hiS hzS0 hzS1 hzS2 (by rfl) h16 w0.heap.size (w0.heap.size + 1) (.string op) (by rfl) Q.out.1 P3.out.2.2.1 ⟨bo, oo, none⟩ n co (cS L) (by rfl) HH.out.2.2.1 (HH.out.1 _ P3.out.1) HH.out.2.2.2.2.1 h1n hn2 P3.out.1.size ?_; intro gs cs v1 hS1 hrS hgS; have hB1 : Below w0.heap.size w0 v1 := P3.out.1.trans hgS; have hAl := (hrS.block w0.heap.size (by rw [P3.out.2.2.2]; exact Q.out.2.2.1) Q.out.2.2.2.2.1).trans P3.out.2.1)
    | (refine step_lit 22 3 iA _ 8 (by rfl) _ _ (by rfl) Tryd.underlying22 hiA hzA0 hzA1 hzA2 (by rfl) h8 w0.heap.size w1.heap.size (.int .i64 pl) (by rfl) hB1.size (P1.out.2.2.1 w1) ⟨ba, oa, none⟩ n ca (cA L) (by rfl) HH.out.2.2.2.1 (HH.out.2.1 _ (hB1.trans ((P1.out.2.2.2 w1).mono hB1.size))) HH.out.2.2.2.2.2.1 h1n hn2 (Nat.le_trans hB1.size (P1.out.2.2.2 w1).size) ?_; intro ga ca' w2 hA2 hrA hgA; have hB2 : Below w0.heap.size w0 w2 := (hB1.trans ((P1.out.2.2.2 w1).mono hB1.size)).trans hgA; have hSf := (ownsRow_below (P1.out.2.2.2 w1) hS1).kept hrA (other_row (ownsRow_below (P1.out.2.2.2 w1) hS1) (own_lit hB1.size (P1.out.2.2.1 w1)) Q.out.2.2.2.2.2); obtain ⟨hf0, hf1, hf2⟩ := HH.out.2.2.2.2.2.2.2.1 w2 hB2; obtain ⟨hx0, hx1, hx2⟩ := HH.out.2.2.2.2.2.2.2.2 w2 hB2)
    | (refine step_lit 22 3 iA _ 8 (by rfl) _ _ (by rfl) Tryd.underlying22 hiA hzA0 hzA1 hzA2 (by rfl) h8 w0.heap.size (w0.heap.size + 1) (.int .i64 pl) (by rfl) Q.out.1 hAl ⟨ba, oa, none⟩ n ca (cA L) (by rfl) HH.out.2.2.2.1 (HH.out.2.1 _ hB1) HH.out.2.2.2.2.2.1 h1n hn2 hB1.size ?_; intro ga ca' w2 hA2 hrA hgA; have hB2 : Below w0.heap.size w0 w2 := hB1.trans hgA; have hSf := hS1.kept hrA (other_row hS1 (own_lit Q.out.1 hAl) Q.out.2.2.2.2.2); obtain ⟨hf0, hf1, hf2⟩ := HH.out.2.2.2.2.2.2.2.1 w2 hB2; obtain ⟨hx0, hx1, hx2⟩ := HH.out.2.2.2.2.2.2.2.2 w2 hB2)
    | (refine step_lit 22 3 iA _ 8 (by rfl) _ _ (by rfl) Tryd.underlying22 hiA hzA0 hzA1 hzA2 (by rfl) h8 w0.heap.size w0.heap.size (.int .i64 pl) (by rfl) (Nat.le_refl _) hAl ⟨ba, oa, none⟩ n ca (cA L) (by rfl) HH.out.2.2.2.1 (HH.out.2.1 _ hB1) HH.out.2.2.2.2.2.1 h1n hn2 hB1.size ?_; intro ga ca' w2 hA2 hrA hgA; have hB2 : Below w0.heap.size w0 w2 := hB1.trans hgA; have hSf := hS1.kept hrA (other_row hS1 (own_lit (Nat.le_refl _) hAl) Q.out.2.2.2.2.2); obtain ⟨hf0, hf1, hf2⟩ := HH.out.2.2.2.2.2.2.2.1 w2 hB2; obtain ⟨hx0, hx1, hx2⟩ := HH.out.2.2.2.2.2.2.2.2 w2 hB2))
  all_goals
    have hm : 1 + n = ((op, pl) :: L).length := by show 1 + n = L.length + 1; rw [H.out.1]; omega
    have hbw : Below w.heap.size w w2 := HE.out.1.trans (hB2.mono HE.out.1.size)
    have HF := Lib.hid (And.intro hm (And.intro hbw (And.intro hSf (And.intro hA2 hB))))
    clear hm hbw hSf hA2 hB2
    go_wp2_with fail
    refine bodyPost_ret (v := .agg #[.int .i64 a, .slice (some ⟨gs, 0, none⟩) (1 + n) cs, .slice (some ⟨ga, 0, none⟩) (1 + n) ca']) (by simp [results, Tryd.results58, go_sem, hx0, hx1, hx2]) rfl ⟨gs, ga, _, _, by rw [HF.out.1], Nat.le_trans HE.out.1.size (HF.out.2.2.1.lt gs rfl).1, Nat.le_trans HE.out.1.size (HF.out.2.2.2.1.lt ga rfl).1, WantV.of_rows HF.out.1 (by omega) (own_put3 HF.out.2.2.1 HF.out.2.2.2.2 _ _ _) (own_put3 HF.out.2.2.2.1 HF.out.2.2.2.2 _ _ _), put3_below HF.out.2.1 (Nat.le_succ _) _ _ _⟩
theorem under_ref_none (op : ByteArray) (pl : Int) (w : World) :
    Calls Tryd.prog 58 #[.string op, .int .i64 pl, .agg #[.int .i64 0, .slice none 0 0, .slice none 0 0]] w (Tells (.agg #[.int .i64 0, .slice none 0 0, .slice none 0 0]) w) := by
  have ST := Lib.hid (two_errs w (.int .i64 0) (.slice none 0 0) (.slice none 0 0) (.int .i64 0) (.slice none 0 0) (.slice none 0 0))
  go_enter Tryd.func58, Tryd.ntmps58
  go_upto_region 1 with fail
  obtain ⟨w0, hw0⟩ : ∃ w0, w0 = (w.alloc (.cells #[.int .i64 0, .slice none 0 0, .slice none 0 0] 33)).alloc (.cells #[.int .i64 0, .slice none 0 0, .slice none 0 0] 33) := ⟨_, rfl⟩
  rw [← hw0]
  obtain ⟨hb0, hE0, hF0⟩ := ST.out w0 hw0
  obtain ⟨_, hc0, hc1, hc2⟩ := hE0.facts
  obtain ⟨⟨hf0, hf1, hf2⟩, hd0, hd1, hd2⟩ := hF0.facts
  have HE := Lib.hid hb0
  clear hw0 hE0 hb0 hF0
  go_wp2_with fail
  refine bodyPost_ret (v := .agg #[.int .i64 0, .slice none 0 0, .slice none 0 0]) (by simp [results, Tryd.results58, go_sem, hd0, hd1, hd2]) rfl ⟨rfl, put3_below HE.out (Nat.le_succ _) _ _ _⟩
end Go.Proofs.YtmienemnjikgdaaDoor
end
section
namespace Go.Proofs.YtmienemnjikgdaaDoor
open Go.RowKit Go.Extern WordM NatM

/-- an Err of package word: its number k at place pl -/
def RefErrW (w : World) (pl k : Int) (v : Value) (w' : World) : Prop :=
  ∃ g g', v = .agg #[.int .i64 k, .slice (some ⟨g, 0, none⟩) 1 1, .slice (some ⟨g', 0, none⟩) 1 1] ∧ (w.heap.size ≤ g ∧ w.heap.size ≤ g') ∧ WantV w' (some ⟨g, 0, none⟩) (some ⟨g', 0, none⟩) 1 1 [(wordOp, pl)] ∧ Below w.heap.size w w'
theorem WantV.put3 {w : World} {g g' h : Nat} {op : ByteArray} {pl : Int} (hv : WantV w (some ⟨g, 0, none⟩) (some ⟨g', 0, none⟩) 1 1 [(op, pl)]) (hg : g ≠ h) (hg' : g' ≠ h) (a b c : Value) : WantV (put3 w h a b c) (some ⟨g, 0, none⟩) (some ⟨g', 0, none⟩) 1 1 [(op, pl)] := by
  obtain ⟨b1, o1, e1, l1, c1⟩ := hv.ops (by simp)
  obtain ⟨b2, o2, e2, l2, c2⟩ := hv.ats (by simp)
  obtain ⟨rfl, rfl⟩ : g = b1 ∧ 0 = o1 := by simpa using e1
  obtain ⟨rfl, rfl⟩ : g' = b2 ∧ 0 = o2 := by simpa using e2
  exact WantV.one (by rw [put3_size]; exact l1) (by rw [put3_size]; exact l2) ((put3_cell w h a b c _ hg).trans (c1 0 _ rfl)) ((put3_cell w h a b c _ hg').trans (c2 0 _ rfl))
def RefErrW1 (w : World) (pl k : Int) (e : Ending) (w' : World) : Prop := ∃ v, e = .returned v ∧ RefErrW w pl k v w'
/-- refused: the zero value v0, and the error -/
def RefErrW2 (w : World) (v0 : Value) (pl k : Int) (e : Ending) (w' : World) : Prop := ∃ v, e = .returned (.tuple #[v0, v]) ∧ RefErrW w pl k v w'


end Go.Proofs.YtmienemnjikgdaaDoor
end
section
namespace Go.Proofs.YtmienemnjikgdaaDoor
open Go.RowKit Go.Extern.Stop Go.Stop Go.Extern WordM RuleM NatM
attribute [local go_sem ↓] Go.wp_at_zero Go.wp_at_succ

/-- an Err of package rule: its number k at place pl; its two slices are new -/
def RefErrR (w : World) (pl k : Int) (v : Value) (w' : World) : Prop :=
  ∃ g g', v = .agg #[.int .i64 k, .slice (some ⟨g, 0, none⟩) 1 1, .slice (some ⟨g', 0, none⟩) 1 1] ∧ (w.heap.size ≤ g ∧ w.heap.size ≤ g') ∧ WantV w' (some ⟨g, 0, none⟩) (some ⟨g', 0, none⟩) 1 1 [(ruleOp, pl)] ∧ Below w.heap.size w w'
def RefErrR1 (w : World) (pl k : Int) (e : Ending) (w' : World) : Prop := ∃ v, e = .returned v ∧ RefErrR w pl k v w'
/-- refused: the zero value v0, and the error -/
def RefErrR2 (w : World) (v0 : Value) (pl k : Int) (e : Ending) (w' : World) : Prop := ∃ v, e = .returned (.tuple #[v0, v]) ∧ RefErrR w pl k v w'
theorem RefErrR.laid {w wx w2 : World} {h g g' : Nat} {pl k : Int} (hb : Below w.heap.size w wx) (hh : w.heap.size ≤ h) (hlt : h < wx.heap.size) (hg : wx.heap.size ≤ g ∧ g < w2.heap.size ∧ wx.heap.size ≤ g' ∧ g' < w2.heap.size)
    (hc : w2.cell? ⟨g, 0, none⟩ = some (.string ruleOp)) (hc' : w2.cell? ⟨g', 0, none⟩ = some (.int .i64 pl)) (hb2 : Below wx.heap.size wx w2) (a b c : Value) :
    RefErrR w pl k (.agg #[.int .i64 k, .slice (some ⟨g, 0, none⟩) 1 1, .slice (some ⟨g', 0, none⟩) 1 1]) (put3 w2 h a b c) := by
  have hs := hb.size
  refine ⟨g, g', rfl, ⟨by omega, by omega⟩, ?_, put3_below (hb.trans (hb2.mono hs)) hh _ _ _⟩
  exact WantV.put3 (WantV.one hg.2.1 hg.2.2.2 hc hc') (by omega) (by omega) _ _ _
theorem Err3.lt {w : World} {h : Nat} {a b c : Value} (k : Err3 w h a b c) : h < w.heap.size := heap_ltN k.heap
theorem start_err (w w0 : World) (hw0 : w0 = w.alloc (.cells #[.int .i64 0, .slice none 0 0, .slice none 0 0] 33)) : Below w.heap.size w w0 ∧ Err3 w0 w.heap.size (.int .i64 0) (.slice none 0 0) (.slice none 0 0) :=
  ⟨by rw [hw0]; exact (Below.refl _ _).alloc (Nat.le_refl _) _, by rw [hw0]; exact Err3.new w⟩
theorem start_both (w : World) (a b c : Value) (w0 : World) (hw0 : w0 = (w.alloc (.cells #[a, b, c] 24)).alloc (.cells #[.int .i64 0, .slice none 0 0, .slice none 0 0] 33)) :
    Below w.heap.size w w0 ∧ Rul3 w0 w.heap.size a b c ∧ Err3 w0 (w.heap.size + 1) (.int .i64 0) (.slice none 0 0) (.slice none 0 0) := by
  have h1 : Below w.heap.size w (w.alloc (.cells #[a, b, c] 24)) := (Below.refl _ _).alloc (Nat.le_refl _) _
  obtain ⟨h2, h3⟩ := start_err (w.alloc (.cells #[a, b, c] 24)) w0 hw0
  have hs : (w.alloc (.cells #[a, b, c] 24)).heap.size = w.heap.size + 1 := by simp
  rw [hs] at h3
  exact ⟨h1.trans (h2.mono h1.size), (Rul3.new w a b c).next h2, h3⟩

theorem small_pow7 {k j : Nat} (h4 : k ≤ 4) (h : j ≤ 7) : k ^ j ≤ 16384 := Nat.le_trans (Nat.pow_le_pow_left h4 _) (Nat.le_trans (Nat.pow_le_pow_right (by omega) h) (by decide))
set_option maxHeartbeats 1000000 in
theorem power_ref (k n : Nat) (w : World) (h4 : k ≤ 4) (h7 : n ≤ 7) :
    Calls Tryd.prog 60 #[.int .i64 (k : Int), .int .i64 (n : Int)] w fun e w' => e = .returned (.int .i64 ((k ^ n : Nat) : Int)) ∧ w = w' := by
  go_enter Tryd.func60, Tryd.ntmps60
  go_wp2_with fail
  go_loop [5, 6] (fun v5 v6 => ∃ j : Nat, j ≤ n ∧ v6 = .int .i64 (j : Int) ∧ v5 = .int .i64 ((k ^ j : Nat) : Int)) (fun _ v => n - (intOf v).toNat)
  case atStart => exact ⟨0, Nat.zero_le _, rfl, by simp⟩
  case round =>
    obtain ⟨j, hj, rfl, rfl⟩ := hrel
    by_cases hlt : j < n
    · have hs := small_pow7 (j := j) h4 (by omega)
      have hn := Nat.pow_succ k j
      obtain ⟨s, hs'⟩ : ∃ s, k ^ j = s := ⟨_, rfl⟩
      rw [hs'] at hn hs ⊢
      have hsq : s * k ≤ 16384 * 4 := Nat.mul_le_mul hs h4
      have hsm : ((s : Int) * (k : Int)) = ((s * k : Nat) : Int) := by push_cast; rfl
      obtain ⟨u, hu⟩ : ∃ u, s * k = u := ⟨_, rfl⟩
      rw [hu] at hsq hsm hn
      have w2 : IntKind.i64.wrap ((s : Int) * (k : Int)) = (u : Int) := by rw [hsm, IntWalk.i64_in _ (by omega)]
      have HU := Lib.hid hn
      clear hn hs' hsm hu
      go_wp2_with fail
      go_round
      case rel => exact ⟨j + 1, by omega, by go_num, by rw [HU.out]⟩
      case measure => simp [intOf]; omega
    · obtain rfl : j = n := by omega
      go_wp2_with fail
      go_ret
      exact ⟨rfl, rfl⟩

/-- the place of the first number that is none of k symbols; -1, where there is none -/
def badN (k : Int) (l : List Int) : Int := match l.findIdx? (badAt k) with
  | some i => (i : Int)
  | none => -1
theorem badN_ok {k : Nat} {l : List Int} (h : okW k l) : badN k l = -1 := by unfold badN; rw [bad_none.2 h]
theorem badN_bad {k : Int} {l : List Int} {i : Nat} (h : l.findIdx? (badAt k) = some i) : badN k l = (i : Int) := by unfold badN; rw [h]
theorem bad_ref (k : Int) (p : Option Addr) (n c : Nat) (l : List Int) (w : World) (hn : n = l.length) (h : IntV w.heap.size w p c l) :
    Calls Tryd.prog 68 #[.int .i64 k, .slice p n c] w fun e w' => e = .returned (.int .i64 (badN k l)) ∧ w = w' := by
  have hle := h.le
  have hcap := h.cap
  unfold maxLen at hcap
  have hnc : n ≤ c := by omega
  obtain ⟨z, hz⟩ : ∃ z, badN k l = z := ⟨_, rfl⟩
  rw [hz]
  unfold badN at hz
  have hcases : (z = -1 ∧ ∀ (j : Nat) (x : Int), l[j]? = some x → badAt k x = false) ∨ (∃ i : Nat, z = i ∧ i < n ∧ (∃ x : Int, l[i]? = some x ∧ badAt k x = true) ∧ ∀ (j : Nat) (x : Int), j < i → l[j]? = some x → badAt k x = false) := by
    cases hf : l.findIdx? (badAt k) with
    | none =>
      rw [hf] at hz
      left
      refine ⟨hz.symm, fun j x hx => ?_⟩
      rw [List.findIdx?_eq_none_iff] at hf
      exact hf x (List.mem_of_getElem? hx)
    | some i =>
      rw [hf] at hz
      obtain ⟨hil, hbad, hall⟩ := List.findIdx?_eq_some_iff_getElem.1 hf
      right
      refine ⟨i, hz.symm, by omega, ⟨_, List.getElem?_eq_getElem hil, hbad⟩, fun j x hj hx => ?_⟩
      have := hall j hj
      rw [List.getElem?_eq_getElem (by omega)] at hx
      obtain rfl := Option.some.inj hx
      simpa using this
  have H := Lib.hid (And.intro h hn)
  clear h hz hn hle
  rcases hcases with ⟨rfl, hall⟩ | ⟨i, rfl, hin, ⟨xb, hxb, hxb'⟩, hall⟩
  · have HA := Lib.hid hall
    clear hall
    go_enter Tryd.func68, Tryd.ntmps68
    go_wp2_with fail
    go_loop [5] (fun v => ∃ j : Nat, j ≤ n ∧ v = .int .i64 (j : Int)) (fun v => n - (intOf v).toNat)
    case atStart => exact ⟨0, Nat.zero_le _, rfl⟩
    case round =>
      obtain ⟨j, hj, rfl⟩ := hrel
      by_cases hlt : j < n
      · have hnl := H.out.2
        obtain ⟨b, off, rfl, hb, hc⟩ := H.out.1.cell (by rintro rfl; simp at hnl; omega)
        obtain ⟨x, hx⟩ := getI (l := l) (k := j) (by omega)
        have hcx := hc j x hx
        have hg := HA.out j x hx
        unfold badAt at hg
        simp at hg
        have hx1 : ¬ x < 0 := by omega
        have hx2 : ¬ k ≤ x := by omega
        clear hc hx hg hnl
        go_wp2_with fail
        go_round
        case rel => exact ⟨j + 1, by omega, by go_num⟩
        case measure => simp [intOf]; omega
      · obtain rfl : j = n := by omega
        go_wp2_with fail
        go_ret
        exact ⟨rfl, rfl⟩
  · have HA := Lib.hid (And.intro hall (And.intro hxb hxb'))
    clear hall hxb hxb'
    go_enter Tryd.func68, Tryd.ntmps68
    go_wp2_with fail
    go_loop [5] (fun v => ∃ j : Nat, j ≤ i ∧ v = .int .i64 (j : Int)) (fun v => n - (intOf v).toNat)
    case atStart => exact ⟨0, Nat.zero_le _, rfl⟩
    case round =>
      obtain ⟨j, hj, rfl⟩ := hrel
      have hnl := H.out.2
      obtain ⟨b, off, rfl, hb, hc⟩ := H.out.1.cell (by rintro rfl; simp at hnl; omega)
      by_cases hlt : j < i
      · obtain ⟨x, hx⟩ := getI (l := l) (k := j) (by omega)
        have hcx := hc j x hx
        have hg := HA.out.1 j x hlt hx
        unfold badAt at hg
        simp at hg
        have hx1 : ¬ x < 0 := by omega
        have hx2 : ¬ k ≤ x := by omega
        clear hc hx hg hnl
        go_wp2_with fail
        go_round
        case rel => exact ⟨j + 1, by omega, by go_num⟩
        case measure => simp [intOf]; omega
      · obtain rfl : j = i := by omega
        have hcx := hc j xb HA.out.2.1
        have hg := HA.out.2.2
        unfold badAt at hg
        simp at hg
        clear hc hnl
        rcases Int.lt_or_le xb 0 with hx1 | hx1
        · clear hg
          go_wp2_with fail
          go_ret
          exact ⟨rfl, rfl⟩
        · have hx2 : k ≤ xb := by omega
          have hx3 : ¬ xb < 0 := by omega
          clear hg
          go_wp2_with fail
          go_ret
          exact ⟨rfl, rfl⟩

/-- how many windows, and no error -/
def SizeRef (w : World) (n : Nat) (e : Ending) (w' : World) : Prop := e = .returned (.tuple #[.int .i64 (n : Int), noErr]) ∧ Below w.heap.size w w'
end Go.Proofs.YtmienemnjikgdaaDoor
end
section
namespace Go.Proofs.YtmienemnjikgdaaDoor
open Go.RowKit Go.Extern.Stop Go.Stop Go.Extern WordM RuleM NatM
attribute [local go_sem ↓] Go.wp_at_zero Go.wp_at_succ

set_option maxRecDepth 100000 in
set_option maxHeartbeats 4000000 in
theorem rcheck_ref_ok (K R : Nat) (p : Option Addr) (n c : Nat) (t : List Int) (w : World) (hn : n = t.length) (h : IntV w.heap.size w p c t) (ho : OkR K R t) :
    Calls Tryd.prog 77 #[.agg #[.int .i64 (K : Int), .int .i64 (R : Int), .slice p n c]] w (Tells noErr w) := by
  have h1 := ho.k1
  have h4 := ho.k4
  have h3 := ho.r3
  have hk1 : ¬ (K : Int) < 1 := by omega
  have hk4 : ¬ (4 : Int) < K := by omega
  have hr3 : ¬ (3 : Int) < R := by omega
  obtain ⟨R2, hR2⟩ : ∃ R2 : Nat, 2 * R = R2 := ⟨_, rfl⟩
  obtain ⟨M, hM⟩ : ∃ M : Nat, R2 + 1 = M := ⟨_, rfl⟩
  have hpw := fun W => power_ref K M W h4 (by omega)
  have hKM : K ^ M = n := by rw [← hM, ← hR2, ← ho.len, hn]
  simp only [hKM] at hpw
  have hcap := h.cap
  have hle := h.le
  unfold maxLen at hcap
  have hn63 : n ≤ 9223372036854775807 := by omega
  have w2r : IntKind.i64.wrap (2 * (R : Int)) = (R2 : Int) := by rw [IntWalk.i64_in _ (by omega)]; omega
  have wR : IntKind.i64.wrap ((R2 : Int) + 1) = (M : Int) := by rw [IntWalk.i64_in _ (by omega)]; omega
  have HP := Lib.hid hpw
  have hbn := badN_ok ho.ok
  have H := Lib.hid (And.intro h (And.intro hn hbn))
  clear hpw h hn ho hKM hbn hM hR2 hcap hle

  go_enter Tryd.func77, Tryd.ntmps77
  go_upto_region 1 with fail
  obtain ⟨w0, hw0⟩ : ∃ w0, w0 = (w.alloc (.cells #[.int .i64 (K : Int), .int .i64 (R : Int), .slice p n c] 24)).alloc (.cells #[.int .i64 0, .slice none 0 0, .slice none 0 0] 33) := ⟨_, rfl⟩
  obtain ⟨hb0, hR0, hE0⟩ := start_both w _ _ _ w0 hw0
  rw [← hw0]
  have hszb : (w.alloc (.cells #[.int .i64 (K : Int), .int .i64 (R : Int), .slice p n c] 24)).heap.size = w.heap.size + 1 := by simp
  obtain ⟨_, hr0, hr1, hr2⟩ := hR0.facts
  have HE := Lib.hid (And.intro hR0 (And.intro hE0 hb0))
  clear hw0 hR0 hE0 hb0
  go_wp2_with fail
  have hd0 : Below w0.heap.size w0 w0.drew := (Below.refl _ _).drew
  have hxA : ∀ wx : World, Below w0.heap.size w0 wx → wx.cell? ⟨w.heap.size, 0, none⟩ = some (.int .i64 (K : Int)) := fun wx hbx => (HE.out.1.next hbx).facts.2.1
  have hxB : ∀ wx : World, Below w0.heap.size w0 wx → wx.cell? ⟨w.heap.size, 1, none⟩ = some (.int .i64 (R : Int)) := fun wx hbx => (HE.out.1.next hbx).facts.2.2.1
  have hxC : ∀ wx : World, Below w0.heap.size w0 wx → wx.cell? ⟨w.heap.size, 2, none⟩ = some (.slice p n c) := fun wx hbx => (HE.out.1.next hbx).facts.2.2.2
  go_region_held3 (fun w' => w'.cell? ⟨w.heap.size, 0, none⟩ = some (.int .i64 (K : Int)) ∧ w'.cell? ⟨w.heap.size, 1, none⟩ = some (.int .i64 (R : Int)) ∧ w'.cell? ⟨w.heap.size, 2, none⟩ = some (.slice p n c)) (first | exact ⟨hxA _ hd0, hxB _ hd0, hxC _ hd0⟩ | go_keep) (first
    | (go_at_call 60; refine (HP.out _).mono ?_; rintro e w9 ⟨rfl, rfl⟩))
  all_goals
    obtain ⟨wd, hwd⟩ : ∃ x, x = w0.drew := ⟨_, rfl⟩
    rw [← hwd]
    have hdr : Err3 wd (w.heap.size + 1) (.int .i64 0) (.slice none 0 0) (.slice none 0 0) := by rw [hwd]; exact HE.out.2.1.next hd0
    have hbd : Below w.heap.size w wd := by rw [hwd]; exact HE.out.2.2.trans (hd0.mono HE.out.2.2.size)
    have hxd : Rul3 wd w.heap.size (.int .i64 (K : Int)) (.int .i64 (R : Int)) (.slice p n c) := by rw [hwd]; exact HE.out.1.next hd0
    clear hr0 hr1 hr2
    obtain ⟨_, hr0, hr1, hr2⟩ := hxd.facts
    have HD := Lib.hid (And.intro hdr (And.intro hbd hxd))
    clear hdr hbd hxd hxA hxB hxC hd0 hwd
    go_wp2_with fail
    refine (bad_ref (K : Int) p n c t wd H.out.2.1 (H.out.1.next HD.out.2.1)).mono ?_
    rintro e w1 ⟨rfl, rfl⟩
    rw [H.out.2.2]
    obtain ⟨⟨hf0, hf1, hf2⟩, hc0, hc1, hc2⟩ := HD.out.1.facts
    go_wp2_with fail
    refine bodyPost_ret (v := noErr) (by simp [results, Tryd.results77, go_sem, hc0, hc1, hc2, noErr]) rfl ⟨rfl, ?_⟩
    exact put3_below HD.out.2.1 (Nat.le_succ _) _ _ _

set_option maxRecDepth 100000 in
set_option maxHeartbeats 8000000 in
theorem rcheck_ref_bad (k r : Int) (p : Option Addr) (n c : Nat) (t : List Int) (w : World) (hn : n = t.length) (h : IntV w.heap.size w p c t) (i : Nat) (hc : chkR k r t = some i) :
    Calls Tryd.prog 77 #[.agg #[.int .i64 k, .int .i64 r, .slice p n c]] w (RefErrR1 w i 1) := by
  have hcap := h.cap
  have hle := h.le
  unfold maxLen at hcap
  have hn63 : n ≤ 9223372036854775807 := by omega
  clear hcap hle
  unfold chkR at hc
  split at hc
  · obtain rfl := Option.some.inj hc
    rename_i hk
    clear h hn hc
    rcases (by omega : k < 1 ∨ (¬ k < 1 ∧ 4 < k)) with h1 | ⟨h1, h2⟩
    all_goals
      clear hk
      go_enter Tryd.func77, Tryd.ntmps77
      go_upto_region 1 with fail
      obtain ⟨w0, hw0⟩ : ∃ w0, w0 = (w.alloc (.cells #[.int .i64 k, .int .i64 r, .slice p n c] 24)).alloc (.cells #[.int .i64 0, .slice none 0 0, .slice none 0 0] 33) := ⟨_, rfl⟩
      obtain ⟨hb0, hR0, hE0⟩ := start_both w _ _ _ w0 hw0
      rw [← hw0]
      have hszb : (w.alloc (.cells #[.int .i64 k, .int .i64 r, .slice p n c] 24)).heap.size = w.heap.size + 1 := by simp
      obtain ⟨_, hr0, hr1, hr2⟩ := hR0.facts
      have HE := Lib.hid (And.intro hR0 (And.intro hE0 hb0))
      clear hw0 hR0 hE0 hb0
      go_wp2_with fail
      refine (raw_fresh ruleOp 0 1 w0).mono ?_
      rintro e w2 ⟨g, g', rfl, hg, hcg, hcg', hb2⟩
      obtain ⟨⟨hf0, hf1, hf2⟩, hc0, hc1, hc2⟩ := (HE.out.2.1.next hb2).facts
      have HB := Lib.hid (RefErrR.laid (k := 1) HE.out.2.2 (Nat.le_succ _) HE.out.2.1.lt hg hcg hcg' hb2)
      clear hb2 hcg hcg' hg
      go_wp2_with fail
      refine bodyPost_ret (v := .agg #[.int .i64 1, .slice (some ⟨g, 0, none⟩) 1 1, .slice (some ⟨g', 0, none⟩) 1 1]) (by simp [results, Tryd.results77, go_sem, hc0, hc1, hc2]) rfl ⟨_, rfl, ?_⟩
      exact HB.out _ _ _
  · rename_i hk
    have h1 : ¬ k < 1 := by omega
    have h4 : ¬ 4 < k := by omega
    split at hc
    · obtain rfl := Option.some.inj hc
      rename_i hrr
      clear h hn hc hk
      rcases (by omega : r < 0 ∨ (¬ r < 0 ∧ 3 < r)) with h2 | ⟨h2, h3⟩
      all_goals
        clear hrr
        go_enter Tryd.func77, Tryd.ntmps77
        go_upto_region 1 with fail
        obtain ⟨w0, hw0⟩ : ∃ w0, w0 = (w.alloc (.cells #[.int .i64 k, .int .i64 r, .slice p n c] 24)).alloc (.cells #[.int .i64 0, .slice none 0 0, .slice none 0 0] 33) := ⟨_, rfl⟩
        obtain ⟨hb0, hR0, hE0⟩ := start_both w _ _ _ w0 hw0
        rw [← hw0]
        have hszb : (w.alloc (.cells #[.int .i64 k, .int .i64 r, .slice p n c] 24)).heap.size = w.heap.size + 1 := by simp
        obtain ⟨_, hr0, hr1, hr2⟩ := hR0.facts
        have HE := Lib.hid (And.intro hR0 (And.intro hE0 hb0))
        clear hw0 hR0 hE0 hb0
        go_wp2_with fail
        refine (raw_fresh ruleOp 1 1 w0).mono ?_
        rintro e w2 ⟨g, g', rfl, hg, hcg, hcg', hb2⟩
        obtain ⟨⟨hf0, hf1, hf2⟩, hc0, hc1, hc2⟩ := (HE.out.2.1.next hb2).facts
        have HB := Lib.hid (RefErrR.laid (k := 1) HE.out.2.2 (Nat.le_succ _) HE.out.2.1.lt hg hcg hcg' hb2)
        clear hb2 hcg hcg' hg
        go_wp2_with fail
        refine bodyPost_ret (v := .agg #[.int .i64 1, .slice (some ⟨g, 0, none⟩) 1 1, .slice (some ⟨g', 0, none⟩) 1 1]) (by simp [results, Tryd.results77, go_sem, hc0, hc1, hc2]) rfl ⟨_, rfl, ?_⟩
        exact HB.out _ _ _
    · rename_i hrr
      obtain ⟨K, rfl⟩ : ∃ K : Nat, k = K := ⟨k.toNat, by omega⟩
      obtain ⟨R, rfl⟩ : ∃ R : Nat, r = R := ⟨r.toNat, by omega⟩
      have hk4 : K ≤ 4 := by omega
      have hr0' : ¬ (R : Int) < 0 := by omega
      have hr3 : ¬ (3 : Int) < R := by omega
      obtain ⟨R2, hR2⟩ : ∃ R2 : Nat, 2 * R = R2 := ⟨_, rfl⟩
      obtain ⟨M, hM⟩ : ∃ M : Nat, R2 + 1 = M := ⟨_, rfl⟩
      have hpw := fun W => power_ref K M W hk4 (by omega)
      obtain ⟨S, hS⟩ : ∃ S, K ^ M = S := ⟨_, rfl⟩
      have hSle : S ≤ 16384 := by rw [← hS]; exact small_pow7 hk4 (by omega)
      simp only [hS] at hpw
      rw [Int.toNat_natCast, Int.toNat_natCast, hR2, hM, hS] at hc
      have w2r : IntKind.i64.wrap (2 * (R : Int)) = (R2 : Int) := by rw [IntWalk.i64_in _ (by omega)]; omega
      have wR : IntKind.i64.wrap ((R2 : Int) + 1) = (M : Int) := by rw [IntWalk.i64_in _ (by omega)]; omega
      clear hR2 hM hS hk hrr
      split at hc
      · obtain rfl := Option.some.inj hc
        rename_i hlen
        have HP := Lib.hid hpw
        have hnS : ((n : Int) == (S : Int)) = false := by rw [beq_eq_false_iff_ne]; omega
        have hnS' : ((n : Int) != (S : Int)) = true := by rw [bne, hnS]; rfl
        clear hpw h hn hc hlen
        go_enter Tryd.func77, Tryd.ntmps77
        go_upto_region 1 with fail
        obtain ⟨w0, hw0⟩ : ∃ w0, w0 = (w.alloc (.cells #[.int .i64 (K : Int), .int .i64 (R : Int), .slice p n c] 24)).alloc (.cells #[.int .i64 0, .slice none 0 0, .slice none 0 0] 33) := ⟨_, rfl⟩
        obtain ⟨hb0, hR0, hE0⟩ := start_both w _ _ _ w0 hw0
        rw [← hw0]
        have hszb : (w.alloc (.cells #[.int .i64 (K : Int), .int .i64 (R : Int), .slice p n c] 24)).heap.size = w.heap.size + 1 := by simp
        obtain ⟨_, hr0, hr1, hr2⟩ := hR0.facts
        have HE := Lib.hid (And.intro hR0 (And.intro hE0 hb0))
        clear hw0 hR0 hE0 hb0
        go_wp2_with fail
        have hd0 : Below w0.heap.size w0 w0.drew := (Below.refl _ _).drew
        have hxA : ∀ wx : World, Below w0.heap.size w0 wx → wx.cell? ⟨w.heap.size, 0, none⟩ = some (.int .i64 (K : Int)) := fun wx hbx => (HE.out.1.next hbx).facts.2.1
        have hxB : ∀ wx : World, Below w0.heap.size w0 wx → wx.cell? ⟨w.heap.size, 1, none⟩ = some (.int .i64 (R : Int)) := fun wx hbx => (HE.out.1.next hbx).facts.2.2.1
        have hxC : ∀ wx : World, Below w0.heap.size w0 wx → wx.cell? ⟨w.heap.size, 2, none⟩ = some (.slice p n c) := fun wx hbx => (HE.out.1.next hbx).facts.2.2.2
        go_region_held3 (fun w' => w'.cell? ⟨w.heap.size, 0, none⟩ = some (.int .i64 (K : Int)) ∧ w'.cell? ⟨w.heap.size, 1, none⟩ = some (.int .i64 (R : Int)) ∧ w'.cell? ⟨w.heap.size, 2, none⟩ = some (.slice p n c)) (first | exact ⟨hxA _ hd0, hxB _ hd0, hxC _ hd0⟩ | go_keep) (first
          | (go_at_call 60; refine (HP.out _).mono ?_; rintro e w9 ⟨rfl, rfl⟩))
        all_goals
          obtain ⟨wd, hwd⟩ : ∃ x, x = w0.drew := ⟨_, rfl⟩
          rw [← hwd]
          have hdr : Err3 wd (w.heap.size + 1) (.int .i64 0) (.slice none 0 0) (.slice none 0 0) := by rw [hwd]; exact HE.out.2.1.next hd0
          have hbd : Below w.heap.size w wd := by rw [hwd]; exact HE.out.2.2.trans (hd0.mono HE.out.2.2.size)
          have hxd : Rul3 wd w.heap.size (.int .i64 (K : Int)) (.int .i64 (R : Int)) (.slice p n c) := by rw [hwd]; exact HE.out.1.next hd0
          clear hr0 hr1 hr2
          obtain ⟨_, hr0, hr1, hr2⟩ := hxd.facts
          have HD := Lib.hid (And.intro hdr (And.intro hbd hxd))
          clear hdr hbd hxd hxA hxB hxC hd0 hwd
          go_wp2_with fail
          refine (raw_fresh ruleOp 2 1 wd).mono ?_
          rintro e w2 ⟨g, g', rfl, hg, hcg, hcg', hb2⟩
          obtain ⟨⟨hf0, hf1, hf2⟩, hc0, hc1, hc2⟩ := (HD.out.1.next hb2).facts
          have HB := Lib.hid (RefErrR.laid (k := 1) HD.out.2.1 (Nat.le_succ _) HD.out.1.lt hg hcg hcg' hb2)
          clear hb2 hcg hcg' hg
          go_wp2_with fail
          refine bodyPost_ret (v := .agg #[.int .i64 1, .slice (some ⟨g, 0, none⟩) 1 1, .slice (some ⟨g', 0, none⟩) 1 1]) (by simp [results, Tryd.results77, go_sem, hc0, hc1, hc2]) rfl ⟨_, rfl, ?_⟩
          exact HB.out _ _ _
      · rename_i hlen
        obtain ⟨j, hj, rfl⟩ := Option.map_eq_some_iff.1 hc
        have hbn := badN_bad hj
        have hjl := strayN_lt hj
        have hnS : S = n := by omega
        have hjn : j < n := by omega
        simp only [hnS] at hpw
        have HP := Lib.hid hpw
        have H := Lib.hid (And.intro h (And.intro hn hbn))
        have w3j : IntKind.i64.wrap (3 + (j : Int)) = 3 + (j : Int) := by rw [IntWalk.i64_in _ (by omega)]
        have hp3 : ((3 + j : Nat) : Int) = 3 + (j : Int) := by push_cast; rfl
        rw [hp3]
        clear hpw h hn hc hlen hj hjl hbn hnS hp3
        go_enter Tryd.func77, Tryd.ntmps77
        go_upto_region 1 with fail
        obtain ⟨w0, hw0⟩ : ∃ w0, w0 = (w.alloc (.cells #[.int .i64 (K : Int), .int .i64 (R : Int), .slice p n c] 24)).alloc (.cells #[.int .i64 0, .slice none 0 0, .slice none 0 0] 33) := ⟨_, rfl⟩
        obtain ⟨hb0, hR0, hE0⟩ := start_both w _ _ _ w0 hw0
        rw [← hw0]
        have hszb : (w.alloc (.cells #[.int .i64 (K : Int), .int .i64 (R : Int), .slice p n c] 24)).heap.size = w.heap.size + 1 := by simp
        obtain ⟨_, hr0, hr1, hr2⟩ := hR0.facts
        have HE := Lib.hid (And.intro hR0 (And.intro hE0 hb0))
        clear hw0 hR0 hE0 hb0
        go_wp2_with fail
        have hd0 : Below w0.heap.size w0 w0.drew := (Below.refl _ _).drew
        have hxA : ∀ wx : World, Below w0.heap.size w0 wx → wx.cell? ⟨w.heap.size, 0, none⟩ = some (.int .i64 (K : Int)) := fun wx hbx => (HE.out.1.next hbx).facts.2.1
        have hxB : ∀ wx : World, Below w0.heap.size w0 wx → wx.cell? ⟨w.heap.size, 1, none⟩ = some (.int .i64 (R : Int)) := fun wx hbx => (HE.out.1.next hbx).facts.2.2.1
        have hxC : ∀ wx : World, Below w0.heap.size w0 wx → wx.cell? ⟨w.heap.size, 2, none⟩ = some (.slice p n c) := fun wx hbx => (HE.out.1.next hbx).facts.2.2.2
        go_region_held3 (fun w' => w'.cell? ⟨w.heap.size, 0, none⟩ = some (.int .i64 (K : Int)) ∧ w'.cell? ⟨w.heap.size, 1, none⟩ = some (.int .i64 (R : Int)) ∧ w'.cell? ⟨w.heap.size, 2, none⟩ = some (.slice p n c)) (first | exact ⟨hxA _ hd0, hxB _ hd0, hxC _ hd0⟩ | go_keep) (first
          | (go_at_call 60; refine (HP.out _).mono ?_; rintro e w9 ⟨rfl, rfl⟩))
        all_goals
          obtain ⟨wd, hwd⟩ : ∃ x, x = w0.drew := ⟨_, rfl⟩
          rw [← hwd]
          have hdr : Err3 wd (w.heap.size + 1) (.int .i64 0) (.slice none 0 0) (.slice none 0 0) := by rw [hwd]; exact HE.out.2.1.next hd0
          have hbd : Below w.heap.size w wd := by rw [hwd]; exact HE.out.2.2.trans (hd0.mono HE.out.2.2.size)
          have hxd : Rul3 wd w.heap.size (.int .i64 (K : Int)) (.int .i64 (R : Int)) (.slice p n c) := by rw [hwd]; exact HE.out.1.next hd0
          clear hr0 hr1 hr2
          obtain ⟨_, hr0, hr1, hr2⟩ := hxd.facts
          have HD := Lib.hid (And.intro hdr (And.intro hbd hxd))
          clear hdr hbd hxd hxA hxB hxC hd0 hwd
          go_wp2_with fail
          refine (bad_ref (K : Int) p n c t wd H.out.2.1 (H.out.1.next HD.out.2.1)).mono ?_
          rintro e w1 ⟨rfl, rfl⟩
          rw [H.out.2.2]
          go_wp2_with fail
          refine (raw_fresh ruleOp (3 + (j : Int)) 1 wd).mono ?_
          rintro e w2 ⟨g, g', rfl, hg, hcg, hcg', hb2⟩
          obtain ⟨⟨hf0, hf1, hf2⟩, hc0, hc1, hc2⟩ := (HD.out.1.next hb2).facts
          have HB := Lib.hid (RefErrR.laid (k := 1) HD.out.2.1 (Nat.le_succ _) HD.out.1.lt hg hcg hcg' hb2)
          clear hb2 hcg hcg' hg
          go_wp2_with fail
          refine bodyPost_ret (v := .agg #[.int .i64 1, .slice (some ⟨g, 0, none⟩) 1 1, .slice (some ⟨g', 0, none⟩) 1 1]) (by simp [results, Tryd.results77, go_sem, hc0, hc1, hc2]) rfl ⟨_, rfl, ?_⟩
          exact HB.out _ _ _
end Go.Proofs.YtmienemnjikgdaaDoor
end
section
namespace Go.Proofs.YtmienemnjikgdaaDoor
open Go.RowKit Go

theorem wp_pushI {o : Oper} {a : Act} {K : Act → World → Prop} {Q : Exit → Act → World → Prop} {w : World} (s x : Operand)
    (ho : o.op = .call { callee := .builtin .append, args := #[s, x], argTypes := #[22, 22] }) (base : Nat) (p : Option Addr) (n c : Nat) (l : List Int) (hs : a.eval s = .slice p n c) (hn : n = l.length) (h : IntO base w p c l) (hB : base ≤ w.heap.size)
    (B : Nat) (y : Int) (hx : a.eval x = .slice (some ⟨B, 0, none⟩) 1 1) (hb : w.heap[B]? = some (.cells #[.int .i64 y] 3 (0, 0))) (hl : l.length ≤ 1000000)
    (hK : ∀ p' c' w', IntO base w' p' c' (l ++ [y]) → Below base w w' → K (a.put o.dst (.slice p' (n + 1) c')) w') : o.wp Tryd.prog a w K Q := by
  obtain ⟨i0, hi, hz0, hz1, hz2⟩ := info_parts infoI
  subst hn
  refine wp_append_lies w s x 22 ho base 3 i0 (.int .i64 0) 1 8 Tryd.underlying22 hi hz0 hz1 hz2 rfl (by decide) _ l.length (cI l) hs h ⟨B, 0, none⟩ 1 1 [.int .i64 y] hx (by simp) (World.news_of_block hb) (by simp [Value.oneCell']) (by omega) (by unfold maxLen; omega) (by omega) hB w.heap.size rfl ?_
  intro g cap w' hown hgrow _ _
  have hxs : cI l ++ [Value.int .i64 y] = cI (l ++ [y]) := by rw [cI_app]; rfl
  rw [hxs] at hown
  have hown2 : w'.ownsRow base 3 1 (.slice (some ⟨g, 0, none⟩) (l.length + 1) cap) (l ++ [y]).length (cI (l ++ [y])) := by rw [List.length_append]; exact hown
  obtain ⟨p', c', he, ho'⟩ := IntO.slice_own hown2
  rw [List.length_append] at he
  rw [he]
  exact hK p' c' w' ho' ((Below.refl _ _).grown hgrow hB (fun j hj => (World.ownsRow.lt h j hj).1))
theorem step_pushI {ops : Array Oper} {o : Oper} {a : Act} {K : Act → World → Prop} {Q : Exit → Act → World → Prop} {E : Prop} {w : World} (hgd : o.guard = none) (s x : Operand)
    (ho : o.op = .call { callee := .builtin .append, args := #[s, x], argTypes := #[22, 22] }) (base : Nat) (p : Option Addr) (n c : Nat) (l : List Int) (hs : a.eval s = .slice p n c) (hn : n = l.length) (h : IntO base w p c l) (hB : base ≤ w.heap.size)
    (B : Nat) (y : Int) (hx : a.eval x = .slice (some ⟨B, 0, none⟩) 1 1) (hb : w.heap[B]? = some (.cells #[.int .i64 y] 3 (0, 0))) (hl : l.length ≤ 1000000)
    (hK : ∀ p' c' w', IntO base w' p' c' (l ++ [y]) → Below base w w' → K (a.put o.dst (.slice p' (n + 1) c')) w') :
    if Region.wanted o (yielded ops a.tmps) = true then Oper.wp Tryd.prog o a w K Q else E := by
  have hw : Region.wanted o (yielded ops a.tmps) = true := by simp [Region.wanted, hgd]
  rw [if_pos hw]
  exact wp_pushI s x ho base p n c l hs hn h hB B y hx hb hl hK
theorem wpList_pushI {ops : Array Oper} {rest : List Oper} {o : Oper} {a : Act} {Q : Exit → Act → World → Prop} {w : World} (hgd : o.guard = none) (s x : Operand)
    (ho : o.op = .call { callee := .builtin .append, args := #[s, x], argTypes := #[22, 22] }) (base : Nat) (p : Option Addr) (n c : Nat) (l : List Int) (hs : a.eval s = .slice p n c) (hn : n = l.length) (h : IntO base w p c l) (hB : base ≤ w.heap.size)
    (B : Nat) (y : Int) (hx : a.eval x = .slice (some ⟨B, 0, none⟩) 1 1) (hb : w.heap[B]? = some (.cells #[.int .i64 y] 3 (0, 0))) (hl : l.length ≤ 1000000)
    (hK : ∀ p' c' w', IntO base w' p' c' (l ++ [y]) → Below base w w' → wpList Tryd.prog ops Q rest (a.put o.dst (.slice p' (n + 1) c')) w') : wpList Tryd.prog ops Q (o :: rest) a w :=
  wpList_plain hgd fun _ h' => wp_pushI s x ho base p n c l hs hn h hB B y hx hb hl fun p' c' w' h1 h2 => h' _ _ (hK p' c' w' h1 h2)
end Go.Proofs.YtmienemnjikgdaaDoor
end
section
namespace Go.Proofs.YtmienemnjikgdaaDoor
open Go.RowKit Go.Extern.Stop Go.Stop Go.Extern WordM RuleM NatM
attribute [local go_sem ↓] Go.wp_at_zero Go.wp_at_succ

set_option maxRecDepth 100000 in
set_option maxHeartbeats 2000000 in
theorem value_ref (k : Nat) (q : Option Addr) (m d : Nat) (l : List Int) (w : World) (h4 : k ≤ 4) (hm : m = l.length) (hl : IntV w.heap.size w q d l) (hw : okW k l) (h7 : m ≤ 7) :
    Calls Tryd.prog 38 #[.int .i64 (k : Int), .slice q m d] w fun e w' => e = .returned (.int .i64 ((valW k l : Nat) : Int)) ∧ w = w' := by
  have hle := hl.le
  have hcap := hl.cap
  unfold maxLen at hcap
  have hmd : m ≤ d := by omega
  have H := Lib.hid (And.intro hl (And.intro hm hw))
  clear hl hm hw hle
  go_enter Tryd.func38, Tryd.ntmps38
  go_wp2_with fail
  go_loop [5, 6] (fun v5 v6 => ∃ j : Nat, j ≤ m ∧ v6 = .int .i64 (j : Int) ∧ v5 = .int .i64 ((valW k (l.take j) : Nat) : Int)) (fun _ v => m - (intOf v).toNat)
  case atStart => exact ⟨0, Nat.zero_le _, rfl, rfl⟩
  case round =>
    obtain ⟨j, hj, rfl, rfl⟩ := hrel
    by_cases hlt : j < m
    · have hml := H.out.2.1
      obtain ⟨b, off, rfl, hb, hc⟩ := H.out.1.cell (by rintro rfl; simp at hml; omega)
      obtain ⟨x, hx⟩ := getI (l := l) (k := j) (by omega)
      have hcx := hc j x hx
      have hxo := H.out.2.2 x (List.mem_of_getElem? hx)
      have hstep := valW_take1 (k := k) hx
      have hv1 := val_small (l := l) (j := j) h4 H.out.2.2 (by omega)
      have hv2 := val_small (l := l) (j := j + 1) h4 H.out.2.2 (by omega)
      obtain ⟨y, rfl⟩ : ∃ y : Nat, x = (y : Int) := ⟨x.toNat, by omega⟩
      rw [Int.toNat_natCast] at hstep
      obtain ⟨v, hv⟩ : ∃ v, valW k (l.take j) = v := ⟨_, rfl⟩
      obtain ⟨z, hz⟩ : ∃ z, valW k (l.take (j + 1)) = z := ⟨_, rfl⟩
      rw [hv] at hstep hv1 ⊢
      rw [hz] at hstep hv2
      obtain ⟨u, hu⟩ : ∃ u, v * k = u := ⟨_, rfl⟩
      have hvk : ((v : Int) * (k : Int)) = (u : Int) := by rw [← hu]; push_cast; rfl
      rw [hu] at hstep
      have wvk : IntKind.i64.wrap ((v : Int) * (k : Int)) = (u : Int) := by rw [hvk, IntWalk.i64_in _ (by omega)]
      have wux : IntKind.i64.wrap ((u : Int) + (y : Int)) = (z : Int) := by rw [IntWalk.i64_in _ (by omega)]; omega
      have HZ := Lib.hid hz
      clear hc hx hv hz hu hvk hstep hml
      go_wp2_with fail
      go_round
      case rel => exact ⟨j + 1, by omega, by go_num, by rw [HZ.out]⟩
      case measure => simp [intOf]; omega
    · obtain rfl : j = m := by omega
      have he : l.take j = l := by rw [H.out.2.1, List.take_length]
      rw [he]
      go_wp2_with fail
      go_ret
      exact ⟨rfl, rfl⟩

def ImgRel (w1 : World) (u : Nat) (I : List Int) (v5 v6 : Value) (wr : World) : Prop :=
  ∃ (j : Nat) (p : Option Addr) (c : Nat), j ≤ u ∧ v6 = .int .i64 (j : Int) ∧ v5 = .slice p j c ∧ IntO w1.heap.size wr p c (I.take j) ∧ Below w1.heap.size w1 wr
set_option maxRecDepth 100000 in
set_option maxHeartbeats 8000000 in
theorem image_ref (k r : Nat) (p q : Option Addr) (n c m d : Nat) (t l : List Int) (w : World) (hn : n = t.length) (hm : m = l.length) (h : IntV w.heap.size w p c t) (hl : IntV w.heap.size w q d l) (ho : OkR k r t) (hm4 : m ≤ 1000000) (hw : okW k l) :
    Calls Tryd.prog 44 #[.agg #[.int .i64 (k : Int), .int .i64 (r : Int), .slice p n c], .slice q m d] w (IntPost w (imgW k r t l)) := by
  have h4 := ho.k4
  have h3 := ho.r3
  have hle := hl.le
  have hcap := hl.cap
  unfold maxLen at hcap
  have hmd : m ≤ d := by omega
  have hd63 : d ≤ 9223372036854775807 := by omega
  have hncap := h.cap
  have hnle := h.le
  unfold maxLen at hncap
  have hnc : n ≤ c := by omega
  have hc63 : c ≤ 9223372036854775807 := by omega
  have hil := imgW_length k r t l
  have hig := fun i => @imgW_get k r t l i
  obtain ⟨I, hI⟩ : ∃ I, imgW k r t l = I := ⟨_, rfl⟩
  simp only [hI] at hil hig
  rw [hI]
  obtain ⟨R2, hR2⟩ : ∃ R2 : Nat, 2 * r = R2 := ⟨_, rfl⟩
  rw [hR2] at hil hig
  obtain ⟨u, hu⟩ : ∃ u, I.length = u := ⟨_, rfl⟩
  rw [← hm] at hil hig
  have hum : u ≤ m := by omega
  have hR6 : R2 ≤ 6 := by omega
  have w2r : IntKind.i64.wrap (2 * (r : Int)) = (R2 : Int) := by rw [IntWalk.i64_in _ (by omega)]; omega
  have H := Lib.hid (And.intro hn (And.intro hm (And.intro h (And.intro hl (And.intro hig (And.intro hw (And.intro ho (And.intro hR2 (And.intro hu hil)))))))))
  clear hn hm h hl hig hw ho hR2 hle hcap hI hncap hnle hil hu
  go_enter Tryd.func44, Tryd.ntmps44
  go_upto_region 1 with fail
  obtain ⟨w0, hw0⟩ : ∃ w0, w0 = w.alloc (.cells #[.int .i64 (k : Int), .int .i64 (r : Int), .slice p n c] 24) := ⟨_, rfl⟩
  have hb0 : Below w.heap.size w w0 := by rw [hw0]; exact (Below.refl _ _).alloc (Nat.le_refl _) _
  have hE0 : Rul3 w0 w.heap.size (.int .i64 (k : Int)) (.int .i64 (r : Int)) (.slice p n c) := by rw [hw0]; exact Rul3.new w _ _ _
  rw [← hw0]
  have HE := Lib.hid (And.intro hE0 hb0)
  have hs01 : w.heap.size < w0.heap.size := hE0.lt
  clear hw0 hE0 hb0
  go_wp2_with fail
  go_loopw [5, 6] (fun v5 v6 wr => ImgRel w0 u I v5 v6 wr) (fun _ v _ => u - (intOf v).toNat)
  case atStart => exact ⟨0, none, 0, Nat.zero_le _, rfl, rfl, IntO.nothing _ _, Below.refl _ _⟩
  case round =>
    obtain ⟨i, p5, c5, hi, rfl, rfl, ho5, hb⟩ := hrel
    have hbw := HE.out.2.trans (hb.mono HE.out.2.size)
    have hEr := HE.out.1.next hb
    obtain ⟨_, hc0, hc1, hc2⟩ := hEr.facts
    have wiR : IntKind.i64.wrap ((i : Int) + (R2 : Int)) = (i : Int) + (R2 : Int) := by rw [IntWalk.i64_in _ (by omega)]
    by_cases hlt : i < u
    · have hum2 : i + R2 < m := by have := H.out.2.2.2.2.2.2.2.2; omega
      have hlt' : (i : Int) + (R2 : Int) < (m : Int) := by omega
      obtain ⟨J, hJ⟩ : ∃ J, i + R2 + 1 = J := ⟨_, rfl⟩
      have wJ : IntKind.i64.wrap ((i : Int) + (R2 : Int) + 1) = (J : Int) := by rw [IntWalk.i64_in _ (by omega)]; omega
      have zi0 : (0 : Int) ≤ (i : Int) := by omega
      have ziJ : (i : Int) ≤ (J : Int) := by omega
      have zJd : (J : Int) ≤ (d : Int) := by omega
      have hml := H.out.2.1
      obtain ⟨b, off, rfl, hbb, hcc⟩ := H.out.2.2.2.1.cell (by rintro rfl; simp at hml; omega)
      obtain ⟨X, hX⟩ : ∃ X, win l i (R2 + 1) = X := ⟨_, rfl⟩
      have hXl : J - i = X.length := by rw [← hX, win_length (by omega)]; omega
      have hXo : okW k X := by rw [← hX]; exact win_ok H.out.2.2.2.2.2.1 _ _
      have hIi := H.out.2.2.2.2.1 i (by omega)
      rw [hX] at hIi
      have hzt : valW k X < t.length := by rw [H.out.2.2.2.2.2.2.1.len]; have := valW_lt hXo; rw [← hXl] at this; rw [H.out.2.2.2.2.2.2.2.1, show R2 + 1 = J - i by omega]; exact this
      have hg := ent_get hzt
      obtain ⟨b2, off2, rfl, hb2, hc2'⟩ := H.out.2.2.1.cell (by rintro rfl; simp at hzt)
      have hval : ∀ wx : World, Below wr.heap.size wr wx → Calls Tryd.prog 38 #[.int .i64 (k : Int), .slice (some ⟨b, off + i, none⟩) (J - i) (d - i)] wx fun e w' => e = .returned (.int .i64 ((valW k X : Nat) : Int)) ∧ wx = w' := fun wx hbx => by
        have hv := (((H.out.2.2.2.1.next hbw).next hbx).drop i (by omega)).take (R2 + 1)
        exact value_ref k _ (J - i) (d - i) X wx h4 hXl (by rw [← hX]; exact hv) hXo (by omega)
      have htb : ∀ wx : World, Below wr.heap.size wr wx → wx.cell? ⟨b2, off2 + valW k X, none⟩ = some (.int .i64 (ent t (valW k X))) := fun wx hbx => ((hbw.trans (hbx.mono hbw.size)).cell (p := ⟨b2, off2 + valW k X, none⟩) hb2).trans (hc2' _ _ hg)
      have htb0 : ∀ wx : World, Below w.heap.size w wx → wx.cell? ⟨b2, off2 + valW k X, none⟩ = some (.int .i64 (ent t (valW k X))) := fun wx hbx => (hbx.cell (p := ⟨b2, off2 + valW k X, none⟩) hb2).trans (hc2' _ _ hg)
      obtain ⟨f, hf⟩ : ∃ f, ent t (valW k X) = f := ⟨_, rfl⟩
      obtain ⟨z, hz⟩ : ∃ z, valW k X = z := ⟨_, rfl⟩
      rw [hf] at hIi
      simp only [hf] at htb htb0
      simp only [hz] at hval htb htb0
      have hzn : (z : Int) < (n : Int) := by have := H.out.1; rw [hz] at hzt; omega
      have hzn' : z < n := by omega
      have hxA : ∀ wx : World, Below wr.heap.size wr wx → wx.cell? ⟨w.heap.size, 0, none⟩ = some (.int .i64 (k : Int)) := fun wx hbx => (hEr.next hbx).facts.2.1
      have hxB : ∀ wx : World, Below wr.heap.size wr wx → wx.cell? ⟨w.heap.size, 1, none⟩ = some (.int .i64 (r : Int)) := fun wx hbx => (hEr.next hbx).facts.2.2.1
      have hxC : ∀ wx : World, Below wr.heap.size wr wx → wx.cell? ⟨w.heap.size, 2, none⟩ = some (.slice (some ⟨b2, off2, none⟩) n c) := fun wx hbx => (hEr.next hbx).facts.2.2.2
      have hd0 : Below wr.heap.size wr wr.drew := (Below.refl _ _).drew
      have hdA : Below wr.heap.size wr (wr.drew.alloc (.cells #[.int .i64 f] 3)) := hd0.alloc (Nat.le_refl _) _
      have hblk : (wr.drew.alloc (.cells #[.int .i64 f] 3)).heap[wr.heap.size]? = some (.cells #[.int .i64 f] 3 (0, 0)) := heap_newN wr.drew _
      have hoA : IntO w0.heap.size (wr.drew.alloc (.cells #[.int .i64 f] 3)) p5 c5 (I.take i) := ho5.next hdA
      have hsA : w0.heap.size ≤ (wr.drew.alloc (.cells #[.int .i64 f] 3)).heap.size := Nat.le_trans hb.size hdA.size
      obtain ⟨T, hT⟩ : ∃ T, I.take i = T := ⟨_, rfl⟩
      rw [hT] at hoA
      have hTl : i = T.length := by rw [← hT, List.length_take]; have := H.out.2.2.2.2.2.2.2.2.1; omega
      have hTn : I.take (i + 1) = T ++ [f] := by rw [List.take_add_one, hT, hIi]; rfl
      have hdi : ¬ d = i := by omega
      have hT6 : T.length ≤ 1000000 := by omega
      have HT := Lib.hid (And.intro hTl (And.intro hTn (And.intro hoA (And.intro hsA (And.intro hT6 hblk)))))
      have HB := Lib.hid hb
      clear hbw hEr hb hJ hml hcc hX hIi hXo hf hz hc2' hXl hg hzt ho5 hoA hsA hT hTl hTn hT6 hblk hum2
      go_wp2_with fail
      go_region_held3 (fun w' => w'.cell? ⟨w.heap.size, 0, none⟩ = some (.int .i64 (k : Int)) ∧ w'.cell? ⟨w.heap.size, 1, none⟩ = some (.int .i64 (r : Int)) ∧ w'.cell? ⟨w.heap.size, 2, none⟩ = some (.slice (some ⟨b2, off2, none⟩) n c) ∧ w'.cell? ⟨b2, off2 + z, none⟩ = some (.int .i64 f)) (first | exact ⟨hxA _ hd0, hxB _ hd0, hxC _ hd0, htb _ hd0⟩ | exact ⟨hxA _ hdA, hxB _ hdA, hxC _ hdA, htb _ hdA⟩ | exact ⟨hq0, hq1, hq2, hq3⟩ | go_keep) (first
        | (go_at_call 38; refine (hval _ (by first | assumption | exact Below.refl _ _)).mono ?_; rintro e w8 ⟨rfl, rfl⟩)
        | (refine step_pushI (by rfl) _ _ (by rfl) w0.heap.size p5 i c5 T (by rfl) HT.out.1 HT.out.2.2.1 HT.out.2.2.2.1 wr.heap.size f (by rfl) HT.out.2.2.2.2.2 HT.out.2.2.2.2.1 ?_; intro p9 c9 w9 ho9 hb9; have hB0 : Below w0.heap.size w0 w9 := (HB.out.trans (hdA.mono HB.out.size)).trans hb9; have hB9 : Below w.heap.size w w9 := HE.out.2.trans (hB0.mono HE.out.2.size); obtain ⟨_, hq0, hq1, hq2⟩ := (HE.out.1.next hB0).facts; have hq3 := htb0 _ hB9))
      all_goals
        have HF := Lib.hid (And.intro ho9 hB0)
        clear hxA hxB hxC hd0 hdA htb htb0 hval ho9 hb9 hB0 hB9 hq0 hq1 hq2 hq3
        go_wp2_with fail
        go_roundw
        case rel => exact ⟨i + 1, p9, c9, by omega, by go_num, rfl, by rw [HT.out.2.1]; exact HF.out.1, HF.out.2⟩
        case measure => simp [intOf]; omega
    · obtain rfl : i = u := by omega
      have hge : ¬ (i : Int) + (R2 : Int) < (m : Int) := by have := H.out.2.2.2.2.2.2.2.2; omega
      have he : I.take i = I := by rw [← H.out.2.2.2.2.2.2.2.2.1, List.take_length]
      rw [he] at ho5
      have HF := Lib.hid (And.intro (ho5.base (Nat.le_of_lt hs01)) hbw)
      clear ho5 hbw hb hEr he
      go_wp2_with fail
      go_ret
      exact ⟨p5, c5, by rw [H.out.2.2.2.2.2.2.2.2.1]; rfl, HF.out.1, HF.out.2⟩
end Go.Proofs.YtmienemnjikgdaaDoor
end
section
namespace Go.Proofs.YtmienemnjikgdaaDoor
open Go.RowKit Go.Extern.Stop Go.Stop Go.Extern WordM RuleM NatM

def DigRel (w : World) (k n x : Nat) (g : Nat) (v2 v8 : Value) (wr : World) : Prop :=
  ∃ (j X : Nat) (suf : List Int), j ≤ n ∧ v8 = .int .i64 ((j : Int) - 1) ∧ v2 = .int .i64 (X : Int) ∧ X ≤ 16384 ∧ digW k n x = digW k j X ++ suf ∧ IntO w.heap.size wr (some ⟨g, 0, none⟩) n (List.replicate j 0 ++ suf) ∧ Below w.heap.size w wr
set_option maxRecDepth 100000 in
set_option maxHeartbeats 4000000 in
theorem digits_ref (k n x : Nat) (w : World) (h1 : 1 ≤ k) (h4 : k ≤ 4) (h7 : n ≤ 7) (hx : x ≤ 16384) :
    Calls Tryd.prog 37 #[.int .i64 (k : Int), .int .i64 (n : Int), .int .i64 (x : Int)] w (IntPost w (digW k n x)) := by
  have hk0 : ¬ (k : Int) = 0 := by omega
  have hmk := makeI n (by omega) w
  have hn1 : IntKind.i64.wrap ((n : Int) - 1) = (n : Int) - 1 := by rw [IntWalk.i64_in _ (by omega)]
  go_enter Tryd.func37, Tryd.ntmps37
  go_wp2_with fail
  have ho0 := IntO.made w n (by omega)
  have hb0 : Below w.heap.size w (w.alloc (.cells (madeCells #[.int .i64 0] n) 3)) := (Below.refl _ _).alloc (Nat.le_refl _) _
  have HO := Lib.hid (And.intro ho0 hb0)
  clear hmk ho0 hb0
  go_loopw [2, 8] (fun v2 v8 wr => DigRel w k n x w.heap.size v2 v8 wr) (fun _ v _ => (intOf v + 1).toNat)
  case atStart => exact ⟨n, x, [], Nat.le_refl _, rfl, rfl, hx, by simp, by simpa using HO.out.1, HO.out.2⟩
  case round =>
    obtain ⟨j, X, suf, hj, rfl, rfl, hX, hd, ho, hb⟩ := hrel
    have hsl : suf.length = n - j := by
      have := congrArg List.length hd
      rw [digW_length, List.length_append, digW_length] at this
      omega
    rcases Nat.eq_zero_or_pos j with rfl | hj0
    · have he : List.replicate 0 (0 : Int) ++ suf = digW k n x := by rw [hd]; rfl
      rw [he] at ho
      have hl := digW_length k n x
      have HF := Lib.hid (And.intro ho (And.intro hb hl))
      clear ho hb he hd hl hsl
      go_wp2_with fail
      go_ret
      exact ⟨_, _, by rw [HF.out.2.2]; rfl, HF.out.1, HF.out.2.1⟩
    · obtain ⟨i, rfl⟩ : ∃ i, j = i + 1 := ⟨j - 1, by omega⟩
      have e1 : (((i + 1 : Nat) : Int) - 1) = (i : Int) := by omega
      rw [e1]
      obtain ⟨D, hD⟩ : ∃ D, X % k = D := ⟨_, rfl⟩
      obtain ⟨Q, hQ⟩ : ∃ Q, X / k = Q := ⟨_, rfl⟩
      have hQX : Q ≤ X := by rw [← hQ]; exact Nat.div_le_self _ _
      have hDk : D < k := by rw [← hD]; exact Nat.mod_lt _ (by omega)
      have hd2 : digW k n x = digW k i Q ++ (((D : Nat) : Int) :: suf) := by
        rw [hd]
        show digW k i (X / k) ++ [((X % k : Nat) : Int)] ++ suf = _
        rw [hD, hQ, List.append_assoc]; rfl
      have tD : (X : Int).tmod (k : Int) = (D : Int) := by rw [Int.tmod_eq_emod_of_nonneg (by omega), ← hD]; rfl
      have tQ : (X : Int).tdiv (k : Int) = (Q : Int) := by rw [Int.tdiv_eq_ediv_of_nonneg (by omega), ← hQ]; rfl
      have tQ' : IntKind.i64.wrap (Q : Int) = (Q : Int) := by rw [IntWalk.i64_in _ (by omega)]
      have hset : ∀ v : Int, (List.replicate (i + 1) (0 : Int) ++ suf).set i v = List.replicate i 0 ++ v :: suf := fun v => by
        rw [List.replicate_succ', List.append_assoc, List.set_append_right _ _ (by rw [List.length_replicate]; omega), List.length_replicate, Nat.sub_self]; rfl
      have hlen : (List.replicate (i + 1) (0 : Int) ++ suf).length = n := by rw [List.length_append, List.length_replicate, hsl]; omega
      obtain ⟨xs, hxs⟩ : ∃ xs, List.replicate (i + 1) (0 : Int) ++ suf = xs := ⟨_, rfl⟩
      rw [hxs] at ho hlen
      simp only [hxs] at hset
      have hown : wr.ownsRow w.heap.size 3 1 (.slice (some ⟨w.heap.size, 0, none⟩) n n) n (cI xs) := by
        unfold IntO at ho
        rwa [hlen] at ho
      obtain ⟨y0, hy0⟩ := getI (l := xs) (k := i) (by omega)
      have hcy : wr.cell? ⟨w.heap.size, i, none⟩ = some (.int .i64 y0) := (hown.cellAt i (by omega)).trans (cI_get hy0)
      have hfy : wr.frozen? ⟨w.heap.size, i, none⟩ = false := hown.frozenAt i
      obtain ⟨s1, _⟩ := hown.stored i (.int .i64 (D : Int))
      rw [← cI_set, hset] at s1
      have hb1 : Below w.heap.size w (wr.setCell ⟨w.heap.size, i, none⟩ (.int .i64 (D : Int))) := hb.setCell (p := ⟨w.heap.size, i, none⟩) (Nat.le_refl _) _
      have hlen2 : (List.replicate i (0 : Int) ++ (D : Int) :: suf).length = n := by simp; omega
      have hin : i < n := by omega
      have wi1 : IntKind.i64.wrap ((i : Int) - 1) = (i : Int) - 1 := by rw [IntWalk.i64_in _ (by omega)]
      have HS := Lib.hid (And.intro hd2 (And.intro s1 (And.intro hb1 hlen2)))
      clear hd2 s1 hb1 hlen2 hset hxs hown hy0 ho hb hd hsl hD hQ hlen e1
      go_wp2_with fail
      go_roundw
      case rel => exact ⟨i, Q, (D : Int) :: suf, by omega, rfl, rfl, by omega, HS.out.1, by unfold IntO; rw [HS.out.2.2.2]; exact HS.out.2.1, HS.out.2.2.1⟩
      case measure => simp [intOf]
end Go.Proofs.YtmienemnjikgdaaDoor
end
