/- What the statements ask of errors: edenraw.Root, edenraw.New and edenraw.Is, by contracts. -/
import Derived.Test.YthhighljfjeooaaDoorFaultA
import Derived.Deep.RegionWith
import Derived.Deep.DeepCutAuto
import Derived.Deep.LoopGhost
import Derived.Laws.Rows
import Derived.Outline
namespace Go.Proofs.YthhighljfjeooaaDoor
open Go.RowKit Go.Extern.Stop Go.Stop Go.Extern

theorem Root_any (n : Int) (w : World) (A : Nat → Addr) (hr : Roots w A) :
    Calls Tryd.prog 87 #[.int .i64 n] w fun e w' => e = .returned (.iface 147 (.pointer (some (A (known n))))) ∧ w = w' := by
  have r0 : w.cell? ⟨11, 0, none⟩ = some (.iface 147 (.pointer (some (A 0)))) := hr.var 0 (by decide)
  have r1 : w.cell? ⟨0, 0, none⟩ = some (.iface 147 (.pointer (some (A 1)))) := hr.var 1 (by decide)
  have r2 : w.cell? ⟨1, 0, none⟩ = some (.iface 147 (.pointer (some (A 2)))) := hr.var 2 (by decide)
  have r3 : w.cell? ⟨2, 0, none⟩ = some (.iface 147 (.pointer (some (A 3)))) := hr.var 3 (by decide)
  have r4 : w.cell? ⟨3, 0, none⟩ = some (.iface 147 (.pointer (some (A 4)))) := hr.var 4 (by decide)
  have r5 : w.cell? ⟨4, 0, none⟩ = some (.iface 147 (.pointer (some (A 5)))) := hr.var 5 (by decide)
  have r6 : w.cell? ⟨5, 0, none⟩ = some (.iface 147 (.pointer (some (A 6)))) := hr.var 6 (by decide)
  have r7 : w.cell? ⟨6, 0, none⟩ = some (.iface 147 (.pointer (some (A 7)))) := hr.var 7 (by decide)
  have r8 : w.cell? ⟨7, 0, none⟩ = some (.iface 147 (.pointer (some (A 8)))) := hr.var 8 (by decide)
  have r9 : w.cell? ⟨8, 0, none⟩ = some (.iface 147 (.pointer (some (A 9)))) := hr.var 9 (by decide)
  have r10 : w.cell? ⟨9, 0, none⟩ = some (.iface 147 (.pointer (some (A 10)))) := hr.var 10 (by decide)
  have r11 : w.cell? ⟨10, 0, none⟩ = some (.iface 147 (.pointer (some (A 11)))) := hr.var 11 (by decide)
  clear hr
  rcases (by omega : n = 1 ∨ n = 2 ∨ n = 3 ∨ n = 4 ∨ n = 5 ∨ n = 6 ∨ n = 7 ∨ n = 8 ∨ n = 9 ∨ n = 10 ∨ n = 11 ∨ n < 1 ∨ 11 < n) with rfl | rfl | rfl | rfl | rfl | rfl | rfl | rfl | rfl | rfl | rfl | h | h
  all_goals
    go_enter Tryd.func87, Tryd.ntmps87
    go_wp2
    go_ret
  iterate 11 exact ⟨rfl, rfl⟩
  · exact ⟨by rw [show known n = 0 by unfold known; rw [if_neg (by omega)]]; rfl, rfl⟩
  · exact ⟨by rw [show known n = 0 by unfold known; rw [if_neg (by omega)]]; rfl, rfl⟩

/-- errors.As where a Fault is found. -/
theorem errorsAs_hit (t : Tree) (b : Nat) (w : World) (g : Nat) (ht : t.first = some b) (hl : t.lies w) (hs : Slot w g) (hT : TypeVar w) :
    Calls Tryd.prog 88 #[t.val, .iface 107 (.pointer (some ⟨g, 0, none⟩))] w fun e w' => e = .returned (.bool true) ∧ Below g w w' ∧ w'.cell? ⟨g, 0, none⟩ = some (.pointer (some ⟨b, 0, none⟩)) := by
  refine (errorsAs t w g hl hs hT).mono ?_
  rintro e w' (⟨h1, _⟩ | ⟨b', h1, h2, h3, h4, _⟩)
  · rw [ht] at h1; cases h1
  · obtain rfl := Option.some.inj (ht.symm.trans h1)
    exact ⟨h2, h3, h4⟩

/-- Faults one within another, and then an errorString. -/
def chainT : List (Nat × ByteArray × Int) → Addr → Tree
  | [], a => .leaf a
  | (b, op, pl) :: r, a => .fault b op pl (chainT r a)
theorem chain_hits (a : Addr) : ∀ bs : List (Nat × ByteArray × Int), (chainT bs a).hits 147 a = true
  | [] => by simp [chainT, Tree.hits]
  | (b, op, pl) :: r => by
    have ih := chain_hits a r
    simp only [chainT, Tree.hits, ih, Bool.or_true]
theorem chain_held (a : Addr) (bs : List (Nat × ByteArray × Int)) : (chainT bs a).isNil = false := by cases bs <;> rfl

/-- What an Err says of packages and places: two slices that read the list. -/
structure WantV (w : World) (po pa : Option Addr) (co ca : Nat) (L : List (ByteArray × Int)) : Prop where
  ops : L ≠ [] → ∃ b off, po = some ⟨b, off, none⟩ ∧ b < w.heap.size ∧ ∀ (j : Nat) (x : ByteArray × Int), L[j]? = some x → w.cell? ⟨b, off + j, none⟩ = some (.string x.1)
  ats : L ≠ [] → ∃ b off, pa = some ⟨b, off, none⟩ ∧ b < w.heap.size ∧ ∀ (j : Nat) (x : ByteArray × Int), L[j]? = some x → w.cell? ⟨b, off + j, none⟩ = some (.int .i64 x.2)
  leo : L.length ≤ co
  lea : L.length ≤ ca
  capo : co ≤ maxLen
  capa : ca ≤ maxLen
theorem WantV.below {w w' : World} {po pa : Option Addr} {co ca : Nat} {L : List (ByteArray × Int)} (hb : Below w.heap.size w w') (h : WantV w po pa co ca L) : WantV w' po pa co ca L :=
  ⟨fun hn => by
    obtain ⟨b, off, hp, hlt, hc⟩ := h.ops hn
    exact ⟨b, off, hp, Nat.lt_of_lt_of_le hlt hb.size, fun j x hx => (hb.cell (p := ⟨b, off + j, none⟩) hlt).trans (hc j x hx)⟩, fun hn => by
    obtain ⟨b, off, hp, hlt, hc⟩ := h.ats hn
    exact ⟨b, off, hp, Nat.lt_of_lt_of_le hlt hb.size, fun j x hx => (hb.cell (p := ⟨b, off + j, none⟩) hlt).trans (hc j x hx)⟩, h.leo, h.lea, h.capo, h.capa⟩

theorem cell_alloc_at (w : World) (cs : Array Value) (t : TypeId) (n j : Nat) (hn : w.heap.size = n) : (w.alloc (.cells cs t)).cell? ⟨n, j, none⟩ = cs[j]? := by
  subst hn
  exact cell_of_row _ _ _ cs t (0, 0) (heap_alloc_new w _)

def RawNewPost (w : World) (op : ByteArray) (pl n : Int) (e : Ending) (w' : World) : Prop :=
  ∃ po pa, e = .returned (.agg #[.int .i64 n, .slice po 1 1, .slice pa 1 1]) ∧ WantV w' po pa 1 1 [(op, pl)] ∧ Below w.heap.size w w'
theorem raw_new (op : ByteArray) (pl n : Int) (w : World) :
    Calls Tryd.prog 85 #[.string op, .int .i64 pl, .int .i64 n] w (RawNewPost w op pl n) := by
  go_enter Tryd.func85, Tryd.ntmps85
  go_wp2_with fail
  refine bodyPost_ret (v := .agg #[.int .i64 n, .slice (some ⟨w.heap.size + 1, 0, none⟩) 1 1, .slice (some ⟨w.heap.size + 1 + 1, 0, none⟩) 1 1]) (by simp [results, Tryd.results85, go_sem]) rfl ⟨_, _, rfl, ⟨fun _ => ⟨_, _, rfl, by simp, fun j x hx => ?_⟩, fun _ => ⟨_, _, rfl, by simp, fun j x hx => ?_⟩, Nat.le_refl _, Nat.le_refl _, by decide, by decide⟩, ?_⟩
  · match j, hx with
    | 0, hx =>
      simp at hx
      subst hx
      show World.cell? _ ⟨w.heap.size + 1, 0, none⟩ = _
      rw [World.cell?_alloc_lt _ _ ⟨w.heap.size + 1, 0, none⟩ (by simp), cell_alloc_at _ _ _ _ _ (by simp)]
      rfl
  · match j, hx with
    | 0, hx =>
      simp at hx
      subst hx
      show World.cell? _ ⟨w.heap.size + 1 + 1, 0, none⟩ = _
      rw [cell_alloc_at _ _ _ _ _ (by simp)]
      rfl
  · exact (((Below.refl _ _).alloc (Nat.le_refl _) _).alloc (by simp) _).alloc (by simp; omega) _

def TruePost (w : World) (e : Ending) (w' : World) : Prop := e = .returned (.bool true) ∧ Below w.heap.size w w'

theorem Is_none (po pa : Option Addr) (no na co ca : Nat) (w : World) :
    Calls Tryd.prog 55 #[.nilIface, .agg #[.int .i64 0, .slice po no co, .slice pa na ca]] w (TruePost w) := by
  go_enter Tryd.func55, Tryd.ntmps55
  go_wp2_with fail
  go_ret
  exact ⟨rfl, (Below.refl _ _).alloc (Nat.le_refl _) _⟩

theorem chain_lies_drop {w : World} (a : Addr) : ∀ (j : Nat) {bs : List (Nat × ByteArray × Int)}, (chainT bs a).lies w → j ≤ bs.length → (chainT (bs.drop j) a).lies w
  | 0, _, h, _ => h
  | j + 1, (b, op, pl) :: r, h, hj => by
    have h' : (Tree.fault b op pl (chainT r a)).lies w := h
    exact chain_lies_drop a j (bs := r) h'.2.1 (by simpa using hj)
  | j + 1, [], _, hj => by simp at hj

def ChainRel (w wb : World) (bs : List (Nat × ByteArray × Int)) (a : Addr) (gk : Nat) (v0 v5 : Value) (wr : World) : Prop :=
  ∃ j : Nat, j ≤ bs.length ∧ v0 = (chainT (bs.drop j) a).val ∧ v5 = .int .i64 (j : Int) ∧ Below wb.heap.size wb wr ∧ Below w.heap.size w wr ∧ bs.length - j ≤ gk

set_option maxRecDepth 100000 in
set_option maxHeartbeats 8000000 in
theorem Is_chain (bs : List (Nat × ByteArray × Int)) (k : Nat) (hk : 1 ≤ k ∧ k ≤ 11) (po pa : Option Addr) (n ko ka : Nat) (w : World) (A : Nat → Addr) (hr : Roots w A) (hT : TypeVar w) (hl : (chainT bs (A k)).lies w) (hw : WantV w po pa ko ka (bs.map Prod.snd)) (hn : n = bs.length) :
    Calls Tryd.prog 55 #[(chainT bs (A k)).val, .agg #[.int .i64 (k : Int), .slice po n ko, .slice pa n ka]] w (TruePost w) := by
  subst hn
  have hkn : known (k : Int) = k := by unfold known; rw [if_pos (by omega)]; rfl
  have hn1 := eql_isNil (chainT bs (A k))
  have hn2 := guard_isNil (chainT bs (A k))
  rw [chain_held] at hn1
  have hleo : bs.length ≤ ko := by have := hw.leo; rwa [List.length_map] at this
  have hlea : bs.length ≤ ka := by have := hw.lea; rwa [List.length_map] at this
  have hcapo := hw.capo
  have hcapa := hw.capa
  unfold maxLen at hcapo hcapa
  have hB1 : Below w.heap.size w (w.alloc (.cells #[.int .i64 (k : Int), .slice po bs.length ko, .slice pa bs.length ka] 72)) := (Below.refl _ _).alloc (Nat.le_refl _) _
  have hk0 : ((k : Int) == 0) = false := by rw [beq_eq_false_iff_ne]; omega
  have HH := Lib.hid (And.intro hr (And.intro hT (And.intro hl (And.intro hw hkn))))
  have HB1 := Lib.hid hB1
  clear hr hT hl hw hkn hB1
  go_enter Tryd.func55, Tryd.ntmps55
  go_wp2_with fail
  refine (Root_any (k : Int) _ A (HH.out.1.below HB1.out)).mono ?_
  rintro e w' ⟨rfl, rfl⟩
  rw [HH.out.2.2.2.2]
  go_wp2_with fail
  refine (errorsIs (chainT bs (A k)) _ 147 (A k) (Tree.lies_below HB1.out (t := chainT bs (A k)) HH.out.2.2.1) ((HH.out.1.below HB1.out).there k hk.2) (Or.inl rfl)).mono ?_
  rintro e w2 ⟨rfl, hb2⟩
  rw [chain_hits]
  obtain ⟨wb, hwb⟩ : ∃ wb, w.alloc (.cells #[.int .i64 (k : Int), .slice po bs.length ko, .slice pa bs.length ka] 72) = wb := ⟨_, rfl⟩
  have hbs : wb.heap.size = w.heap.size + 1 := by rw [← hwb]; simp
  have hc0 : wb.cell? ⟨w.heap.size, 0, none⟩ = some (.int .i64 (k : Int)) := by rw [← hwb]; simp
  have hc1 : wb.cell? ⟨w.heap.size, 1, none⟩ = some (.slice po bs.length ko) := by rw [← hwb]; simp
  have hc2 : wb.cell? ⟨w.heap.size, 2, none⟩ = some (.slice pa bs.length ka) := by rw [← hwb]; simp
  have HC := Lib.hid (And.intro hc0 (And.intro hc1 (And.intro hc2 hbs)))
  rw [hwb] at HB1 hb2
  have HW2 := Lib.hid (And.intro hb2 (HB1.out.trans (hb2.mono (by rw [hbs]; omega))))
  clear hc0 hc1 hc2 hbs hwb hb2 hn1 hn2
  go_wp2_with fail
  go_loopg [0, 5] bs.length (fun gk v0 v5 wr => ChainRel w wb bs (A k) gk v0 v5 wr)
  case atStart => exact ⟨0, Nat.zero_le _, rfl, rfl, HW2.out.1, HW2.out.2, by omega⟩
  case round =>
    obtain ⟨j, hj, rfl, rfl, hbb, hbw, hgk⟩ := hrel
    have hgB : w.heap.size < wr.heap.size := by have := hbb.size; have := HC.out.2.2.2; omega
    have hgb1 : w.heap.size < wb.heap.size := by have := HC.out.2.2.2; omega
    have hr1 : wr.cell? ⟨w.heap.size, 1, none⟩ = some (.slice po bs.length ko) := (hbb.cell (p := ⟨w.heap.size, 1, none⟩) hgb1).trans HC.out.2.1
    have HBB := Lib.hid (And.intro hbb hbw)
    by_cases hlt : j < bs.length
    · obtain ⟨x, hx⟩ : ∃ x, bs[j]? = some x := ⟨_, List.getElem?_eq_getElem hlt⟩
      obtain ⟨b, op, pl⟩ := x
      have hdr : bs.drop j = (b, op, pl) :: bs.drop (j + 1) := by
        obtain ⟨h1, h2⟩ := List.getElem?_eq_some_iff.1 hx
        rw [List.drop_eq_getElem_cons h1, h2]
      have hlj := chain_lies_drop (A k) j (Tree.lies_below hbw (t := chainT bs (A k)) HH.out.2.2.1) (Nat.le_of_lt hlt)
      rw [hdr] at hlj ⊢
      have hlj : (Tree.fault b op pl (chainT (bs.drop (j + 1)) (A k))).lies wr := hlj
      have hv : (chainT ((b, op, pl) :: bs.drop (j + 1)) (A k)).val = .iface 105 (.pointer (some ⟨b, 0, none⟩)) := rfl
      rw [hv]
      obtain ⟨rest, hrest⟩ : ∃ rest, chainT (bs.drop (j + 1)) (A k) = rest := ⟨_, rfl⟩
      rw [hrest] at hlj
      have hbl : b < wr.heap.size := heap_lt hlj.1
      have c0 : wr.cell? ⟨b, 0, none⟩ = some (.string op) := by simp [World.cell?, hlj.1]
      have c1 : wr.cell? ⟨b, 1, none⟩ = some (.int .i64 pl) := by simp [World.cell?, hlj.1]
      have c2 : wr.cell? ⟨b, 2, none⟩ = some rest.val := by simp [World.cell?, hlj.1]
      have hmx : (bs.map Prod.snd)[j]? = some (op, pl) := by rw [List.getElem?_map, hx]; rfl
      have hne : bs.map Prod.snd ≠ [] := by intro e; rw [e] at hmx; simp at hmx
      have hWr := HH.out.2.2.2.1.below hbw
      obtain ⟨bo, oo, rfl, hbo, hco⟩ := hWr.ops hne
      obtain ⟨ba, oa, rfl, hba, hca⟩ := hWr.ats hne
      have co := hco j _ hmx
      have ca := hca j _ hmx
      have hr2 : wr.cell? ⟨w.heap.size, 2, none⟩ = some (.slice (some ⟨ba, oa, none⟩) bs.length ka) := (hbb.cell (p := ⟨w.heap.size, 2, none⟩) hgb1).trans HC.out.2.2.1
      have HF := Lib.hid (And.intro c0 (And.intro c1 (And.intro c2 (And.intro hlj hrest))))
      have HG := Lib.hid (And.intro hr1 (And.intro hr2 (And.intro co ca)))
      have HTr := Lib.hid (HH.out.2.1.below hbw)
      clear hx hdr hv hrest c0 c1 c2 hmx hne hWr hco hca hr2 co ca hlj hbb hbw
      go_upto_region 9 with fail
      go_cut [60] (fun v wx => v = .bool false ∧ Below wr.heap.size wr wx ∧ wx.cell? ⟨wr.heap.size, 0, none⟩ = some (.pointer (some ⟨b, 0, none⟩)))
      case first =>
        have hd : Below wr.heap.size wr (wr.alloc (.cells #[.pointer none] 105)).drew := ((Below.refl _ _).alloc (Nat.le_refl _) _).drew
        have hdl := Tree.lies_below hd (t := .fault b op pl rest) HF.out.2.2.2.1
        have hsl : Slot (wr.alloc (.cells #[.pointer none] 105)).drew wr.heap.size := ⟨by simp, ⟨.pointer none, by simp⟩, by simp⟩
        have HD := Lib.hid (And.intro hdl hsl)
        clear hdl hsl hr1
        go_region_with (first
          | (go_at_call 88; refine (errorsAs_hit (.fault b op pl rest) b _ wr.heap.size rfl ?_ ?_ ?_).mono ?_; exact HD.out.1; exact HD.out.2; exact HTr.out.below hd; rintro e w' ⟨rfl, hbx, k3⟩; have hb' := hd.trans hbx; have k0 := (hb'.cell (p := ⟨b, 0, none⟩) hbl).trans HF.out.1; have k1 := (hb'.cell (p := ⟨b, 1, none⟩) hbl).trans HF.out.2.1; have m1 := (hb'.cell (p := ⟨w.heap.size, 1, none⟩) hgB).trans HG.out.1; have m2 := (hb'.cell (p := ⟨w.heap.size, 2, none⟩) hgB).trans HG.out.2.1; have m3 := (hb'.cell (p := ⟨bo, oo + j, none⟩) hbo).trans HG.out.2.2.1; have m4 := (hb'.cell (p := ⟨ba, oa + j, none⟩) hba).trans HG.out.2.2.2))
        all_goals (go_wp2_with fail; go_meet; exact ⟨rfl, by assumption, by assumption⟩)
      case rest =>
        obtain ⟨rfl, hbx, k3⟩ := hcut
        have k2 := (hbx.cell (p := ⟨b, 2, none⟩) hbl).trans HF.out.2.2.1
        have HX := Lib.hid hbx
        clear hbx hr1
        go_wp2_with fail
        go_roundg (bs.length - (j + 1))
        case rel => exact ⟨j + 1, by omega, by rw [HF.out.2.2.2.2], by go_num, HBB.out.1.trans (HX.out.mono HBB.out.1.size), HBB.out.2.trans (HX.out.mono HBB.out.2.size), Nat.le_refl _⟩
        case measure => omega
    · obtain rfl : j = bs.length := by omega
      have hd : (chainT (bs.drop bs.length) (A k)).val = .iface 147 (.pointer (some (A k))) := by rw [List.drop_length]; rfl
      rw [hd]
      have hr0 : wr.cell? ⟨w.heap.size, 0, none⟩ = some (.int .i64 (k : Int)) := (hbb.cell (p := ⟨w.heap.size, 0, none⟩) hgb1).trans HC.out.1
      have hA := eql_hit wr 147 (A k) (Or.inl rfl)
      clear hd hbb hbw
      go_wp2_with fail
      refine (Root_any (k : Int) _ A (HH.out.1.below HBB.out.2)).mono ?_
      rintro e w' ⟨rfl, rfl⟩
      rw [HH.out.2.2.2.2]
      go_wp2_with fail
      go_ret
      exact ⟨rfl, HBB.out.2⟩
end Go.Proofs.YthhighljfjeooaaDoor
