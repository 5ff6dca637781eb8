/- Package fault by its contracts, third part: Code, Deep, Outer, Inner and Trail of any error tree. -/
import Derived.Test.YtmbgfcanchmmpaaDoorFaultB
import Derived.Deep.QuietTactic
import Derived.BigQuiet
import Derived.WalkSmall
namespace Go.Proofs.YtmbgfcanchmmpaaDoor
open Go.RowKit Go.Extern.Stop Go.Stop Go.Extern

theorem own_shape {w : World} {base : Nat} {e : TypeId} {v : Value} {n : Nat} {xs : List Value} (h : w.ownsRow base e 1 v n xs) :
    (v = .slice none 0 0 ∧ n = 0 ∧ xs = []) ∨ ∃ g cap, v = .slice (some ⟨g, 0, none⟩) n cap ∧ base ≤ g ∧ g < w.heap.size ∧ n ≤ cap ∧ cap ≤ maxLen ∧ (∀ j, j < n → w.cell? ⟨g, j, none⟩ = xs[j]?) ∧ xs.length = n := by
  have h0 := h
  obtain ⟨hx, h | ⟨g, cap, cur, hv, hg, hh, hc, hm, r⟩⟩ := h
  · obtain ⟨h1, rfl⟩ := h
    exact Or.inl ⟨h1, rfl, List.eq_nil_of_length_eq_zero (by simpa using hx)⟩
  · subst hv
    exact Or.inr ⟨g, cap, rfl, hg, heap_lt hh, hc, hm, fun j hj => h0.cellAt j (by omega), by omega⟩
theorem ownsRow_base {w : World} {base base' : Nat} {e : TypeId} {v : Value} {n : Nat} {xs : List Value} (hB : base' ≤ base) (h : w.ownsRow base e 1 v n xs) : w.ownsRow base' e 1 v n xs := by
  obtain ⟨hx, h | ⟨g, cap, cur, hv, hg, r⟩⟩ := h
  · exact ⟨hx, Or.inl h⟩
  · exact ⟨hx, Or.inr ⟨g, cap, cur, hv, Nat.le_trans hB hg, r⟩⟩
theorem faults_mem {w : World} : ∀ {t : Tree} {x : Nat × ByteArray × Int}, t.lies w → x ∈ t.faults → ∃ v, w.heap[x.1]? = some (.cells #[.string x.2.1, .int .i64 x.2.2, v] 48 (0, 0))
  | .nil, _, _, h => by cases h
  | .leaf _, _, _, h => by cases h
  | .fault b op pl t, x, hl, h => by
    rcases List.mem_cons.1 h with rfl | h
    · exact ⟨_, hl.1⟩
    · exact faults_mem (t := t) hl.2.1 h
  | .own t, _, hl, h => faults_mem (t := t) hl h
  | .shut _, _, _, h => by cases h
  | .both t u, _, hl, h => by
    simp only [Tree.faults] at h
    cases ht : t.first with
    | none => rw [ht] at h; exact faults_mem (t := u) hl.2 h
    | some b => rw [ht] at h; exact faults_mem (t := t) hl.1 h

/-- What Outer and Inner tell of a Fault, or of none. -/
def tellOf : Option (Nat × ByteArray × Int) → Value
  | none => .tuple #[.string ⟨#[]⟩, .int .i64 0, .bool false]
  | some x => .tuple #[.string x.2.1, .int .i64 x.2.2, .bool true]
def ptrOpt : Option (Nat × ByteArray × Int) → Value
  | none => .pointer none
  | some x => ptrOf x
def TellPost (w : World) (x : Option (Nat × ByteArray × Int)) (e : Ending) (w' : World) : Prop := e = .returned (tellOf x) ∧ Below w.heap.size w w'

theorem place_any (x : Option (Nat × ByteArray × Int)) (w : World) (hx : ∀ y, x = some y → ∃ v, w.heap[y.1]? = some (.cells #[.string y.2.1, .int .i64 y.2.2, v] 48 (0, 0))) :
    Calls Tryd.prog 35 #[ptrOpt x] w (TellPost w x) := by
  cases x with
  | none =>
    have hv : ptrOpt none = .pointer none := rfl
    rw [hv]
    clear hx
    go_enter Tryd.func35, Tryd.ntmps35
    go_wp2
    go_ret3
    exact ⟨rfl, Below.refl _ _⟩
  | some y =>
    obtain ⟨b, op, pl⟩ := y
    obtain ⟨v, hb⟩ := hx _ rfl
    have hv : ptrOpt (some (b, op, pl)) = .pointer (some ⟨b, 0, none⟩) := rfl
    rw [hv]
    have h0 : w.cell? ⟨b, 0, none⟩ = some (.string op) := by simp [World.cell?, hb]
    have h1 : w.cell? ⟨b, 1, none⟩ = some (.int .i64 pl) := by simp [World.cell?, hb]
    clear hx hb
    go_enter Tryd.func35, Tryd.ntmps35
    go_wp2
    go_quiet (fail)
    go_wp2
    go_ret3
    exact ⟨rfl, below_drewN (Below.refl _ _) _⟩

def DeepPost (w : World) (t : Tree) (e : Ending) (w' : World) : Prop := e = .returned (.int .i64 t.faults.length) ∧ Below w.heap.size w w'
theorem deep_any (t : Tree) (w : World) (hl : t.lies w) (hT : TypeVar w) (hn : t.faults.length ≤ 1048576) :
    Calls Tryd.prog 15 #[t.val] w (DeepPost w t) := by
  have hc := all_any t w hl hT hn
  clear hl hT
  go_enter Tryd.func15, Tryd.ntmps15
  go_wp2_with fail
  refine hc.mono ?_
  clear hc
  rintro e w1 ⟨v, rfl, hown, hb⟩
  rcases own_shape hown with ⟨rfl, h0, _⟩ | ⟨g, cap, rfl, _⟩
  · have H0 := Lib.hid h0
    clear hown h0
    go_wp2_with fail
    go_ret
    exact ⟨by rw [H0.out]; rfl, hb⟩
  · clear hown
    go_wp2_with fail
    go_ret
    exact ⟨rfl, hb⟩

theorem firstPtr_opt {w : World} {t : Tree} (hl : t.lies w) : firstPtr t = ptrOpt t.faults.head? := by
  unfold firstPtr
  cases hf : t.first with
  | none => rw [faults_none hf]; rfl
  | some b =>
    obtain ⟨op, pl, t', hc, hl2, hq⟩ := faults_some hl hf
    rw [hq]
    rfl

theorem outer_any (t : Tree) (w : World) (hl : t.lies w) (hT : TypeVar w) :
    Calls Tryd.prog 16 #[t.val] w (TellPost w t.faults.head?) := by
  have hc := first_any t w hl hT
  have hx : ∀ y, t.faults.head? = some y → ∃ v, w.heap[y.1]? = some (.cells #[.string y.2.1, .int .i64 y.2.2, v] 48 (0, 0)) := fun y hy => faults_mem hl (List.mem_of_mem_head? (by rw [hy]; rfl))
  have he := firstPtr_opt hl
  clear hT hl
  generalize t.faults.head? = x at hx he ⊢
  have HE := Lib.hid he
  clear he
  go_enter Tryd.func16, Tryd.ntmps16
  go_wp2_with fail
  refine hc.mono ?_
  clear hc
  rintro e w1 ⟨rfl, hb⟩
  rw [HE.out]
  have hp := place_any x w1 (fun y hy => by obtain ⟨v, h⟩ := hx y hy; exact ⟨v, (hb.block _ (heap_lt h)).trans h⟩)
  clear hx HE
  go_wp2_with fail
  refine hp.mono ?_
  clear hp
  rintro e w2 ⟨rfl, hb2⟩
  cases x with
  | none =>
    have hv : tellOf none = .tuple #[.string ⟨#[]⟩, .int .i64 0, .bool false] := rfl
    rw [hv]
    go_wp2_with fail
    go_ret3
    exact ⟨rfl, hb.trans (hb2.mono hb.size)⟩
  | some y =>
    have hv : tellOf (some y) = .tuple #[.string y.2.1, .int .i64 y.2.2, .bool true] := rfl
    rw [hv]
    go_wp2_with fail
    go_ret3
    exact ⟨rfl, hb.trans (hb2.mono hb.size)⟩
end Go.Proofs.YtmbgfcanchmmpaaDoor
