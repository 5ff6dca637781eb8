/- Package nat by its contracts, sixth part: slices.Reverse, Text. -/
import Derived.Test.YthhighljfjeooaaDoorNatE
import Derived.Test.YthhighljfjeooaaDoorNatT
import Derived.RegionTactic
import Derived.ChangeAlike
import Derived.Laws.BytesArg
namespace Go.Proofs.YthhighljfjeooaaDoor
open Go.RowKit NatM

/-- bytes as cells -/
def cells8 (bs : List Nat) : List Value := bs.map fun (b : Nat) => Value.int .u8 (b : Int)
theorem cells8_length (l : List Nat) : (cells8 l).length = l.length := by simp [cells8]
theorem cells8_get {l : List Nat} {j x : Nat} (h : l[j]? = some x) : (cells8 l)[j]? = some (.int .u8 (x : Int)) := by simp [cells8, h]
theorem cells8_set (l : List Nat) (k x : Nat) : cells8 (l.set k x) = (cells8 l).set k (.int .u8 (x : Int)) := by simp [cells8, List.map_set]

def RevRel (w : World) (base g cap : Nat) (xs : List Nat) (v2 v3 : Value) (wr : World) : Prop :=
  ∃ (k : Nat) (zs : List Nat), 2 * k ≤ xs.length ∧ v2 = .int .i64 (k : Int) ∧ v3 = .int .i64 ((xs.length : Int) - 1 - (k : Int)) ∧ RevAt xs zs k ∧ wr.ownsRow base 5 1 (.slice (some ⟨g, 0, none⟩) xs.length cap) xs.length (cells8 zs) ∧ w.grownBy wr (some g)
def RevPost (w : World) (base g cap : Nat) (xs : List Nat) (e : Ending) (w' : World) : Prop :=
  e = .returned (.tuple #[]) ∧ w'.ownsRow base 5 1 (.slice (some ⟨g, 0, none⟩) xs.length cap) xs.length (cells8 xs.reverse) ∧ w.grownBy w' (some g)

set_option maxHeartbeats 1000000 in
theorem reverse_any (base g cap : Nat) (xs : List Nat) (w : World) (hl : xs.length ≤ 9223372036854775807) (h : w.ownsRow base 5 1 (.slice (some ⟨g, 0, none⟩) xs.length cap) xs.length (cells8 xs)) :
    Calls Tryd.prog 82 #[.slice (some ⟨g, 0, none⟩) xs.length cap] w (RevPost w base g cap xs) := by
  have H := Lib.hid h
  clear h
  go_enter Tryd.func82, Tryd.ntmps82
  go_wp2_with fail
  go_loopw [2, 3] (fun v2 v3 wr => RevRel w base g cap xs v2 v3 wr) (fun v _ _ => xs.length - (intOf v).toNat)
  case atStart => exact ⟨0, xs, Nat.zero_le _, rfl, by go_num, RevAt.start xs, H.out, World.grownBy.refl _ _⟩
  case round =>
    obtain ⟨k, zs, hk, rfl, rfl, hR, ho, hb⟩ := hrel
    have HR := Lib.hid (And.intro hR (And.intro ho hb))
    by_cases hgo : 2 * k + 1 < xs.length
    · obtain ⟨j, hj⟩ : ∃ j, xs.length - 1 - k = j := ⟨_, rfl⟩
      have e1 : ((xs.length : Int) - 1 - (k : Int)) = (j : Int) := by omega
      rw [e1]
      have hzl : zs.length = xs.length := hR.1
      obtain ⟨x, hx⟩ : ∃ x, zs[k]? = some x := ⟨_, List.getElem?_eq_getElem (by omega)⟩
      obtain ⟨y, hy⟩ : ∃ y, zs[j]? = some y := ⟨_, List.getElem?_eq_getElem (by omega)⟩
      have hcx : wr.cell? ⟨g, k, none⟩ = some (.int .u8 (x : Int)) := (ho.cellAt k (by omega)).trans (cells8_get hx)
      have hcy : wr.cell? ⟨g, j, none⟩ = some (.int .u8 (y : Int)) := (ho.cellAt j (by omega)).trans (cells8_get hy)
      have hfx : wr.frozen? ⟨g, k, none⟩ = false := ho.frozenAt k
      have hfy : wr.frozen? ⟨g, j, none⟩ = false := ho.frozenAt j
      have hkj : k < j := by omega
      have hjn : j < xs.length := by omega
      have hkn : k < xs.length := by omega
      have hne : ¬ k = j := by omega
      have hne2 : ¬ j = k := by omega
      have hst := hR.step hgo hx (by rw [hj]; exact hy)
      rw [hj] at hst
      obtain ⟨s1, t1⟩ := ho.stored k (.int .u8 (y : Int))
      obtain ⟨s2, t2⟩ := s1.stored j (.int .u8 (x : Int))
      rw [← cells8_set, ← cells8_set] at s2
      have HS := Lib.hid (And.intro hst (And.intro s2 (And.intro (World.grownBy.trans (World.grownBy.trans hb t1) t2) hj)))
      clear hst hj hzl e1 hR ho hb hx hy s1 s2 t1 t2
      go_wp2_with fail
      go_region
      go_wp2_with fail
      go_roundw
      case rel => exact ⟨k + 1, (zs.set k y).set j x, by omega, by go_num, by have := HS.out.2.2.2; go_num, HS.out.1, HS.out.2.1, only_drew HS.out.2.2.1⟩
      case measure => simp [intOf]; omega
    · have hd : zs = xs.reverse := hR.done (by omega)
      have HD := Lib.hid hd
      clear hd hR ho hb
      go_wp2_with fail
      go_end0
      exact ⟨rfl, by have := HR.out.2.1; rwa [HD.out] at this, HR.out.2.2⟩
theorem info8 : (Tryd.prog.info? 5).map (fun i => (i.zero, i.size, i.bytes)) = some (some (.int .u8 0), 1, 1) := by kernel_rfl
/-- rows of different element types lie in different blocks -/
theorem own_ne {w : World} {b b' : Nat} {e e' : TypeId} {v v' : Value} {n n' : Nat} {xs xs' : List Value} (h : w.ownsRow b e 1 v n xs) (h' : w.ownsRow b' e' 1 v' n' xs') (hne : e ≠ e') : v.ownBlock = none ∨ v.ownBlock ≠ v'.ownBlock := by
  rcases h.2 with ⟨rfl, _⟩ | ⟨g, cap, cur, rfl, _, hh, _⟩
  · exact Or.inl rfl
  · right
    rcases h'.2 with ⟨rfl, _⟩ | ⟨g', cap', cur', rfl, _, hh', _⟩
    · simp [Value.ownBlock]
    · intro hq
      have : g = g' := by simpa [Value.ownBlock] using hq
      subst this
      rw [hh] at hh'
      injection hh' with hh'
      injection hh' with _ ht
      exact hne ht
theorem ownBlock_slice (p : Option Addr) (n c : Nat) : (Value.slice p n c).ownBlock = p.map (·.block) := by cases p <;> rfl

def chars (ds : List Nat) : List Nat := ds.map fun d => 48 + d
theorem chars_snoc (ds : List Nat) (d : Nat) : chars (ds ++ [d]) = chars ds ++ [48 + d] := by simp [chars]
theorem chars_length (ds : List Nat) : (chars ds).length = ds.length := by simp [chars]
theorem cells8_snoc (l : List Nat) (x : Nat) : cells8 (l ++ [x]) = cells8 l ++ [.int .u8 (x : Int)] := by simp [cells8]
/-- the decimal text of a number -/
def textOf (n : Nat) : ByteArray := strOfNums ((decL n).map fun (d : Nat) => ((48 + d : Nat) : Int))

/-- the digits that Text has gathered, the lowest first -/
def DigO (B : Nat) (w : World) (v : Value) (ds : List Nat) : Prop := ∃ pd cd, v = .slice pd ds.length cd ∧ w.ownsRow B 5 1 (.slice pd ds.length cd) ds.length (cells8 (chars ds))
theorem DigO.of {B : Nat} {w : World} {v : Value} {ds : List Nat} (h : w.ownsRow B 5 1 v ds.length (cells8 (chars ds))) : ∃ pd cd, v = .slice pd ds.length cd ∧ w.ownsRow B 5 1 (.slice pd ds.length cd) ds.length (cells8 (chars ds)) := by
  rcases own_shape h with ⟨rfl, h0, _⟩ | ⟨g, cap, rfl, _⟩
  · obtain rfl := List.eq_nil_of_length_eq_zero h0
    exact ⟨none, 0, rfl, h⟩
  · exact ⟨_, _, rfl, h⟩
def TextRel (B : Nat) (w : World) (n : Nat) (p : Option Addr) (c : Nat) (gk : Nat) (v3 v4 : Value) (wr : World) : Prop :=
  ∃ (R : Nat) (ds : List Nat), v3 = .slice p (D32 R).length c ∧ DigO B wr v4 ds ∧ TInv n ds R ∧ NatO B wr p c (D32 R) ∧ Below B w wr ∧ R ≤ gk
def InnerRel (B : Nat) (w : World) (n : Nat) (p : Option Addr) (c R : Nat) (gk : Nat) (v4 v5 v6 : Value) (wr : World) : Prop :=
  ∃ (i chunk : Nat) (ds : List Nat), i ≤ 9 ∧ v6 = .int .i64 (i : Int) ∧ v5 = .int .u32 (chunk : Int) ∧ chunk < 10 ^ (9 - i) ∧ DigO B wr v4 ds ∧ TInv n ds (chunk + 10 ^ (9 - i) * R) ∧ NatO B wr p c (D32 R) ∧ Below B w wr ∧ 9 - i ≤ gk

set_option maxRecDepth 100000 in
set_option maxHeartbeats 4000000 in
theorem text_any (p : Option Addr) (cap : Nat) (l : List Nat) (w : World) (h : NatV w.heap.size w p cap l) (hl : l.length ≤ 100000) :
    Calls Tryd.prog 49 #[.slice p l.length cap] w (Tells (.string (textOf (V32 l))) w) := by
  obtain ⟨i0, hi, hz0, hz1, hz2⟩ := info_parts info8
  have H := Lib.hid h
  have hln : (D32 (V32 l)).length ≤ 100000 := Nat.le_trans (D32_le h.ok) hl
  have hnlt : V32 l < 4294967296 ^ l.length := V32_lt h.ok
  have HN := Lib.hid hnlt
  clear h hnlt
  go_enter Tryd.func49, Tryd.ntmps49
  go_wp2_with fail
  refine (trim_any p cap l _ H.out).mono ?_
  rintro e w' ⟨rfl, rfl⟩
  go_wp2_with fail
  refine (clone_any p cap (D32 (V32 l)) _ H.out.trim (by omega)).mono ?_
  rintro e w1 ⟨p1, c1, rfl, ho1, hb1⟩
  obtain ⟨n, hn⟩ : ∃ n, V32 l = n := ⟨_, rfl⟩
  rw [hn] at ho1 hln HN ⊢
  have HNN := Lib.hid hn
  have HO1 := Lib.hid (And.intro ho1 hb1)
  clear ho1 hb1 hn
  go_wp2_with fail
  go_loopg [3, 4] n (fun gk v3 v4 wr => TextRel w.heap.size w n p1 c1 gk v3 v4 wr)
  case atStart => exact ⟨n, [], rfl, ⟨none, 0, rfl, World.ownsRow_nil _ _ _ _⟩, TInv.start n, HO1.out.1, HO1.out.2, Nat.le_refl _⟩
  case round =>
    obtain ⟨R, ds, rfl, ⟨pd, cd, rfl, hd⟩, hT, ho, hb, hgk⟩ := hrel
    have hwB : w.heap.size ≤ wr.heap.size := hb.size
    have HR := Lib.hid (And.intro hd (And.intro hT (And.intro ho hb)))
    rcases Nat.eq_zero_or_pos R with hR0 | hR0
    · subst hR0
      have hd0 : D32 0 = [] := D32_nil.2 rfl
      have HD0 := Lib.hid hd0
      have hdg : digs 10 n = ds := hT.done
      have HDG := Lib.hid hdg
      rcases Nat.eq_zero_or_pos ds.length with hz | hz
      · have hn0 : n = 0 := by
          have e := List.eq_nil_of_length_eq_zero hz
          rw [e] at hdg
          exact (digs_eq_nil (by omega)).1 hdg
        obtain rfl : ds = [] := List.eq_nil_of_length_eq_zero hz
        have hr0 : ∃ q x, .slice p1 (D32 0).length c1 = Value.slice q x c1 := ⟨_, _, rfl⟩
        have hl0 : (D32 0).length = 0 := by rw [hd0]; rfl
        rw [hl0]
        have HN0 := Lib.hid hn0
        clear hd0 hdg hT ho hb hd hz hn0 hl0 hr0
        go_wp2_with fail
        go_ret
        refine ⟨?_, HR.out.2.2.2⟩
        rw [HNN.out, HN0.out]
        rfl
      · have hn0 : n ≠ 0 := by
          rintro rfl
          rw [digs_zero] at hdg
          rw [← hdg] at hz
          exact absurd hz (by decide)
        have hl0 : (D32 0).length = 0 := by rw [hd0]; rfl
        rw [hl0]
        rcases own_shape hd with ⟨_, h0, _⟩ | ⟨g, cap', hv, hg, hglt, hc, hm, hcl, _⟩
        · omega
        obtain ⟨rfl, rfl⟩ : pd = some ⟨g, 0, none⟩ ∧ cd = cap' := by simpa using hv
        have hcap' := hm
        unfold maxLen at hcap'
        obtain ⟨bs, hbs⟩ : ∃ bs, chars ds = bs := ⟨_, rfl⟩
        rw [hbs] at hd
        have hbl : bs.length = ds.length := by rw [← hbs, chars_length]
        rw [← hbl] at hd hz ⊢
        have hrev := fun (W : World) (hW : W.ownsRow w.heap.size 5 1 (.slice (some ⟨g, 0, none⟩) bs.length cd) bs.length (cells8 bs)) => reverse_any w.heap.size g cd bs W (by omega) hW
        have HD := Lib.hid (And.intro hd (And.intro hbs (And.intro hg hn0)))
        have hbs0 : ((bs.length : Int) == 0) = false := by rw [beq_eq_false_iff_ne]; omega
        have HREV := Lib.hid hrev
        have hlen2 : bs.length ≤ 9223372036854775807 := by omega
        clear hd0 hdg hT ho hb hd hn0 hl0 hv hg hbs hbl hcl hm hrev hc
        go_wp2_with fail
        refine (HREV.out _ HD.out.1).mono ?_
        rintro e w2 ⟨rfl, ho2, hg2⟩
        have hbb : Below w.heap.size w w2 := HR.out.2.2.2.grown hg2 hwB (fun k hk => by have := Option.some.inj hk; have := HD.out.2.2.1; omega)
        have hcv := run_convert_bytes_arg (P := Tryd.prog) w2 95 5 Tryd.underlying95 Tryd.underlying5 g 0 bs.length cd (bs.reverse.map fun (b : Nat) => (b : Int)) (by simp) (fun i hi => by
          rw [Nat.zero_add]
          have hir : i < bs.reverse.length := by simpa using hi
          have h1 := (ho2.cellAt i (by omega))
          rw [h1, cells8_get (List.getElem?_eq_getElem hir)]
          simp [List.getD_eq_getElem?_getD, hi]) 9 Tryd.underlying9
        have htx : strOfNums (bs.reverse.map fun (b : Nat) => (b : Int)) = textOf n := by
          unfold textOf decL
          rw [if_neg HD.out.2.2.2, HDG.out, ← HD.out.2.1]
          congr 1
          unfold chars
          rw [← List.map_reverse, List.map_map]
          rfl
        rw [htx] at hcv
        have HB := Lib.hid hbb
        clear ho2 hg2 hbb htx
        go_wp2_with fail
        go_ret
        exact ⟨by rw [HNN.out]; rfl, HB.out⟩
    · have hne : 0 < (D32 R).length := List.length_pos_iff.2 (fun e => by have := D32_nil.1 e; omega)
      clear hd hT ho
      go_wp2_with fail
      refine (divide_any (B := w.heap.size) p1 c1 (D32 R) 1000000000 _ HR.out.2.2.1 (by omega) (by omega)).mono ?_
      rintro e w2 ⟨rfl, ⟨t, htv, htl, hto⟩, honly⟩
      rw [V32_D32] at htv
      have hb2 : Below w.heap.size w w2 := HR.out.2.2.2.trans (honly.below hwB (fun x hx => by
        obtain ⟨g, hg, hgb, _⟩ := HR.out.2.2.1.shape hne
        rw [hg] at hx
        have := Option.some.inj hx
        subst this
        exact hgb))
      have hd2 : w2.ownsRow w.heap.size 5 1 (.slice pd ds.length cd) ds.length (cells8 (chars ds)) := HR.out.1.kept honly (by
        rw [← ownBlock_slice p1 (D32 R).length c1]
        exact own_ne HR.out.1 HR.out.2.2.1.own (by decide))
      rw [← htl, V32_D32]
      have htt := trim_any p1 c1 t w2 hto.toV
      rw [htv] at htt
      have hto2 := hto.trim
      rw [htv] at hto2
      have hch : R % 1000000000 < 1000000000 := Nat.mod_lt _ (by omega)
      have hT2 := outer_enter HR.out.2.1
      obtain ⟨R', hR'⟩ : ∃ R', R / 1000000000 = R' := ⟨_, rfl⟩
      obtain ⟨ch, hch'⟩ : ∃ ch, R % 1000000000 = ch := ⟨_, rfl⟩
      rw [hR'] at htt hto2 hT2
      rw [hch'] at hch hT2 ⊢
      have hRR : R' < R := by omega
      have HT2 := Lib.hid (And.intro hd2 (And.intro hT2 (And.intro hto2 hb2)))
      have HTT := Lib.hid htt
      clear hd2 hT2 hto2 hb2 honly hto htv htl hR' hch' hb htt hne
      go_wp2_with fail
      refine HTT.out.mono ?_
      rintro e w' ⟨rfl, rfl⟩
      go_wp2_with fail
      go_loopg [4, 5, 6] 9 (fun gk v4 v5 v6 wr => InnerRel w.heap.size w n p1 c1 R' gk v4 v5 v6 wr)
      case atStart => exact ⟨0, ch, ds, by omega, rfl, rfl, hch, ⟨pd, cd, rfl, HT2.out.1⟩, HT2.out.2.1, HT2.out.2.2.1, HT2.out.2.2.2, by omega⟩
      case round =>
        obtain ⟨i, chunk, ds2, hi9, rfl, rfl, hck, ⟨pd2, cd2, rfl, hd⟩, hT, ho, hb, hgi⟩ := hrel
        have hwB3 : w.heap.size ≤ wr.heap.size := hb.size
        have hckb := inner_le hck
        have HI := Lib.hid (And.intro hck (And.intro hd (And.intro hT (And.intro ho hb))))
        by_cases hgo : i < 9 ∧ (0 < R' ∨ 0 < chunk)
        · obtain ⟨hlt, hgo⟩ := hgo
          have hdl := dec_len HN.out (inner_pos hT hgo)
          have hdl2 : ds2.length < 1000000 := by omega
          have hst := inner_step hlt hT hgo
          have hlt2 := inner_lt hlt hck
          have HS := Lib.hid (And.intro hst hlt2)
          have HGO := Lib.hid hgo
          have hm0 : chunk % 10 < 10 := Nat.mod_lt _ (by omega)
          have HDL := Lib.hid hdl2
          have hown : wr.ownsRow w.heap.size 5 1 (.slice pd2 ds2.length cd2) ds2.length (cells8 (chars ds2)) := hd
          rw [← chars_length ds2] at hown
          have hrne := own_ne HI.out.2.2.2.1.own HI.out.2.1 (by decide)
          have HNE := Lib.hid hrne
          obtain ⟨L, hL⟩ : ∃ L, (chars ds2).length = L := ⟨_, rfl⟩
          have hLd : ds2.length = L := by rw [← hL, chars_length]
          rw [hL] at hown
          rw [hLd] at hdl2 ⊢
          have HL := Lib.hid (And.intro hL hLd)
          clear hck hT ho hb hst hlt2 hdl hd hrne hL hLd hgo
          go_upto_region 7 with fail
          go_cut [27] (fun v wx => v = .bool true ∧ wx = wr)
          case first =>
            rcases HGO.out with h1 | h1
            · have hrl : 0 < (D32 R').length := List.length_pos_iff.2 (fun e => by have := D32_nil.1 e; omega)
              go_wp2_with fail
              go_meet
              exact ⟨rfl, rfl⟩
            · rcases Nat.eq_zero_or_pos (D32 R').length with h2 | h2
              · have h3 : decide ((0 : Int) < ((D32 R').length : Int)) = false := by rw [decide_eq_false_iff_not]; omega
                have h4 : decide (0 < (D32 R').length) = false := by rw [decide_eq_false_iff_not]; omega
                have H2 := Lib.hid h2
                clear h2
                go_wp2_with fail
                go_meet
                exact ⟨rfl, rfl⟩
              · go_wp2_with fail
                go_meet
                exact ⟨rfl, rfl⟩
          case rest =>
            obtain ⟨rfl, rfl⟩ := hcut
            go_wp2_with (at_builtin; refine wpList_append_own _ rfl _ _ 95 rfl w.heap.size 5 i0 (.int .u8 0) 1 1 Tryd.underlying95 hi hz0 hz1 hz2 rfl (by decide) _ _ _ rfl (hown.alloc _) ⟨wc.heap.size, 0, none⟩ 1 1 [.int .u8 ((48 + chunk % 10 : Nat) : Int)] rfl rfl (cell_one_new _ _ _) ?c2 ?c3 ?c4 ?c5 ?_)
            case c2 => intro u hu; simp at hu; subst hu; rfl
            case c3 => unfold maxLen; omega
            case c4 => omega
            case c5 => simp; omega
            intro v' w3 hown' hgrow _
            have hown' : w3.ownsRow w.heap.size 5 1 v' (L + 1) (cells8 (chars ds2) ++ [.int .u8 ((48 + chunk % 10 : Nat) : Int)]) := hown'
            rw [← cells8_snoc, ← chars_snoc] at hown'
            have hlen' : L + 1 = (ds2 ++ [chunk % 10]).length := by rw [List.length_append, List.length_singleton, HL.out.2]
            rw [hlen'] at hown'
            obtain ⟨pd3, cd3, rfl, hd3⟩ := DigO.of hown'
            have hb3 : Below w.heap.size w w3 := (HI.out.2.2.2.2.alloc hwB3 _).grown hgrow (by simp; omega) (fun j hj => (hown.lt j hj).1)
            have ho3 : NatO w.heap.size w3 p1 c1 (D32 R') := ⟨(HI.out.2.2.2.1.own.alloc _).kept hgrow (by rw [← HL.out.2]; exact HNE.out), HI.out.2.2.2.1.ok⟩
            have HF := Lib.hid (And.intro hd3 (And.intro ho3 hb3))
            clear hown hown' hgrow hlen' hd3 hb3 ho3
            go_wp2_with fail
            go_roundg (9 - (i + 1))
            case rel => exact ⟨i + 1, chunk / 10, ds2 ++ [chunk % 10], by omega, by go_num, rfl, HS.out.2, ⟨pd3, cd3, rfl, HF.out.1⟩, HS.out.1, HF.out.2.1, HF.out.2.2, Nat.le_refl _⟩
            case measure => omega
        · have hq : chunk + 10 ^ (9 - i) * R' = R' := by
            rcases Nat.lt_or_ge i 9 with h1 | h1
            · have h2 : R' = 0 ∧ chunk = 0 := by omega
              rw [h2.1, h2.2]; simp
            · obtain rfl : i = 9 := by omega
              simp at hck ⊢
              exact hck
          rw [hq] at hT
          have HQ := Lib.hid (And.intro hT (And.intro hd (And.intro ho hb)))
          clear hck hT ho hb hd hq
          rcases Nat.lt_or_ge i 9 with h1 | h1
          · have hz : R' = 0 ∧ chunk = 0 := by omega
            have h2 : (D32 R').length = 0 := by rw [D32_nil.2 hz.1]; rfl
            have h3 : decide ((0 : Int) < ((D32 R').length : Int)) = false := by rw [decide_eq_false_iff_not]; omega
            have h4 : decide (0 < (D32 R').length) = false := by rw [decide_eq_false_iff_not]; omega
            obtain rfl : chunk = 0 := hz.2
            clear h2 hgo hz
            go_wp2_with fail
            go_roundg R'
            case rel => exact ⟨R', ds2, rfl, ⟨pd2, cd2, rfl, HQ.out.2.1⟩, HQ.out.1, HQ.out.2.2.1, HQ.out.2.2.2, Nat.le_refl _⟩
            case measure => omega
          · clear hgo
            go_wp2_with fail
            go_roundg R'
            case rel => exact ⟨R', ds2, rfl, ⟨pd2, cd2, rfl, HQ.out.2.1⟩, HQ.out.1, HQ.out.2.2.1, HQ.out.2.2.2, Nat.le_refl _⟩
            case measure => omega
end Go.Proofs.YthhighljfjeooaaDoor
