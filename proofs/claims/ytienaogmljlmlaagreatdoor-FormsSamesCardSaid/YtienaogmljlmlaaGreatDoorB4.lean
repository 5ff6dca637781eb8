/- Contracts of library functions, laid at this program's numbers by the kit's lay-plain.mjs: what each says stands in its type.
Lists of ints: slices.Repeat.
Package word by its contracts, seventh part: Times.
Package word by its contracts, eighth part: Index, At.
Package word by its contracts, ninth part: At.
Package word by its contracts, tenth part: At where it is refused; nat.Pow whatever it is asked.
Package rule by its contracts, fifth part: Step where it is refused, Code, From.
Package rule by its contracts, sixth part: From.
Plain mathematics of rules that are sums: digits of numbers, sums of symbols times factors.
Plain mathematics of rules that are made from rules: mirrored, renamed, wider and narrower.
Plain mathematics of rules one behind the other, powers, shifts.
Package forms by its contracts, first part: power, and a table made by a function value.
Package forms by its contracts, second part: the function values. -/
import Derived.Shelf.Strconv.Itoa0
import Derived.Shelf.Strconv.Itoa1
import Derived.Shelf.LaysM
import Derived.Shelf.Strconv.Itoa2
import Derived.Shelf.Strconv.Itoa3
import Derived.Shelf.Bits.Mul64
import Derived.Shelf.Slices.Turned
import Derived.Shelf.Slices.Reverse
import Derived.Shelf.Slices.Equal
import Derived.Ground.Names2Prog
import Derived.Shelf.Slices.Clone
import Derived.Shelf.Slices.SearchI
import Derived.Shelf.Slices.Cells
import Derived.Shelf.Slices.Empties2
import Derived.Ground.SlgnProg
import Derived.Shelf.SlicesE.Clone
import Derived.Test.YtienaogmljlmlaaGreatDoorProg
import Derived.Test.YtienaogmljlmlaaGreatDoorB3
import Derived.Test.YtienaogmljlmlaaGreatDoorB1
import Derived.Laws.CopyOwn
import Derived.Deep.RegionLaw
import Derived.Deep.RegionHeld3
import Derived.Deep.DrawnRows
import Derived.Shelf.Abstract
section
namespace Go.Proofs
open Go.Shelf
def Tryz.lays129_ren : Go.Shelf.Ren := ⟨fun | 129 => 172 | n => n, fun | 53 => 130 | 3 => 3 | 4 => 4 | 46 => 168 | 5 => 5 | 9 => 9 | n => n, fun | n => n⟩
theorem Tryz.lays129 : Go.Proofs.Lays.n129 Tryz.prog Tryz.lays129_ren := {
  mixed := by kernel_rfl
  f129 := Tryz.func172.trans (congrArg some (by kernel_rfl))
  t3 := Tryz.underlying3
  a3 := Tryz.isAgg3
  z3 := Tryz.sizeOf3
  v3 := Tryz.zeroValue3
  t4 := Tryz.underlying4
  a4 := Tryz.isAgg4
  z4 := Tryz.sizeOf4
  v4 := Tryz.zeroValue4
  t5 := Tryz.underlying5
  a5 := Tryz.isAgg5
  z5 := Tryz.sizeOf5
  v5 := Tryz.zeroValue5
  t9 := Tryz.underlying9
  a9 := Tryz.isAgg9
  z9 := Tryz.sizeOf9
  v9 := Tryz.zeroValue9
  t46 := Tryz.underlying168
  a46 := Tryz.isAgg168
  z46 := Tryz.sizeOf168
  v46 := Tryz.zeroValue168
  t53 := Tryz.underlying130
  a53 := Tryz.isAgg130
  z53 := Tryz.sizeOf130
  v53 := Tryz.zeroValue130 }
theorem Tryz.bits_Len64 (x : Int) (w : World) (h0 : 0 ≤ x) (h1 : x ≤ 18446744073709551615) :
    Calls Tryz.prog 172 #[.int .u64 x] w fun e w' => e = .returned (.int .i64 (Lib.bitLen x.toNat)) ∧ w' = w := Any.bits_Len64 Tryz.lays129 x w h0 h1
def Tryz.lays317_ren : Go.Shelf.Ren := ⟨fun | 317 => 171 | n => n, fun | 3 => 3 | 46 => 168 | n => n, fun | n => n⟩
theorem Tryz.lays317 : Go.Proofs.Lays.n317 Tryz.prog Tryz.lays317_ren := {
  mixed := by kernel_rfl
  f317 := Tryz.func171.trans (congrArg some (by kernel_rfl))
  t3 := Tryz.underlying3
  a3 := Tryz.isAgg3
  z3 := Tryz.sizeOf3
  v3 := Tryz.zeroValue3
  t46 := Tryz.underlying168
  a46 := Tryz.isAgg168
  z46 := Tryz.sizeOf168
  v46 := Tryz.zeroValue168 }
open Go.Lib in
theorem Tryz.internal_strconv_log10Pow2 (x : Nat) (h : x ≤ 64) (w : World) :
    Calls Tryz.prog 171 #[.int .i64 x] w fun e w' => e = .returned (.int .i64 (Lib.l10 x)) ∧ w' = w := Any.internal_strconv_log10Pow2 Tryz.lays317 x h w
def Tryz.lays318_ren : Go.Shelf.Ren := ⟨fun | 318 => 173 | n => n, fun | 3 => 3 | 4 => 4 | n => n, fun | n => n⟩
theorem Tryz.lays318 : Go.Proofs.Lays.n318 Tryz.prog Tryz.lays318_ren := {
  mixed := by kernel_rfl
  f318 := Tryz.func173.trans (congrArg some (by kernel_rfl))
  t3 := Tryz.underlying3
  a3 := Tryz.isAgg3
  z3 := Tryz.sizeOf3
  v3 := Tryz.zeroValue3
  t4 := Tryz.underlying4
  a4 := Tryz.isAgg4
  z4 := Tryz.sizeOf4
  v4 := Tryz.zeroValue4 }
open Go.Lib in
theorem Tryz.internal_strconv_bool2_int (b : Bool) (w : World) :
    Calls Tryz.prog 173 #[.bool b] w fun e w' => e = .returned (.int .i64 (if b then 1 else 0)) ∧ w' = w := Any.internal_strconv_bool2_int Tryz.lays318 b w
def Tryz.lays283_ren : Go.Shelf.Ren := ⟨fun | 283 => 165 | n => n, fun | 3 => 3 | 9 => 9 | 4 => 4 | n => n, fun | n => n⟩
theorem Tryz.lays283 : Go.Proofs.Lays.n283 Tryz.prog Tryz.lays283_ren := {
  mixed := by kernel_rfl
  f283 := Tryz.func165.trans (congrArg some (by kernel_rfl))
  t3 := Tryz.underlying3
  a3 := Tryz.isAgg3
  z3 := Tryz.sizeOf3
  v3 := Tryz.zeroValue3
  t4 := Tryz.underlying4
  a4 := Tryz.isAgg4
  z4 := Tryz.sizeOf4
  v4 := Tryz.zeroValue4
  t9 := Tryz.underlying9
  a9 := Tryz.isAgg9
  z9 := Tryz.sizeOf9
  v9 := Tryz.zeroValue9 }
open Go.Lib in
theorem Tryz.internal_strconv_small (i : Nat) (h : i < 100) (w : World) :
    Calls Tryz.prog 165 #[.int .i64 i] w fun e w' => e = .returned (.string ⟨(Lib.decDigits i).toArray⟩) ∧ w' = w := Any.internal_strconv_small Tryz.lays283 i h w
def Tryz.laysM284_ren : Go.Shelf.Ren := ⟨fun | 284 => 166 | 129 => 172 | 317 => 171 | 318 => 173 | n => n, fun | 53 => 130 | 3 => 3 | 212 => 207 | 0 => 0 | 4 => 4 | 46 => 168 | 5 => 5 | 9 => 9 | n => n, fun | 17 => 14 | n => n⟩
theorem Tryz.laysM284 : Go.Proofs.LaysM.n284 Tryz.prog Tryz.laysM284_ren := {
  mixed := by kernel_rfl
  f129 := Tryz.func172.trans (congrArg some (by kernel_rfl))
  f284 := Tryz.func166.trans (congrArg some (by kernel_rfl))
  f317 := Tryz.func171.trans (congrArg some (by kernel_rfl))
  f318 := Tryz.func173.trans (congrArg some (by kernel_rfl))
  t0 := Tryz.underlying0
  a0 := Tryz.isAgg0
  z0 := Tryz.sizeOf0
  v0 := Tryz.zeroValue0
  t3 := Tryz.underlying3
  a3 := Tryz.isAgg3
  z3 := Tryz.sizeOf3
  v3 := Tryz.zeroValue3
  t4 := Tryz.underlying4
  a4 := Tryz.isAgg4
  z4 := Tryz.sizeOf4
  v4 := Tryz.zeroValue4
  t5 := Tryz.underlying5
  a5 := Tryz.isAgg5
  z5 := Tryz.sizeOf5
  v5 := Tryz.zeroValue5
  t9 := Tryz.underlying9
  a9 := Tryz.isAgg9
  z9 := Tryz.sizeOf9
  v9 := Tryz.zeroValue9
  t46 := Tryz.underlying168
  a46 := Tryz.isAgg168
  z46 := Tryz.sizeOf168
  v46 := Tryz.zeroValue168
  t53 := Tryz.underlying130
  a53 := Tryz.isAgg130
  z53 := Tryz.sizeOf130
  v53 := Tryz.zeroValue130
  t212 := Tryz.underlying207
  a212 := Tryz.isAgg207
  z212 := Tryz.sizeOf207
  v212 := Tryz.zeroValue207
  g17 := by kernel_rfl
  i0 := by kernel_rfl
  i3 := by kernel_rfl
  i4 := by kernel_rfl
  i5 := by kernel_rfl
  i9 := by kernel_rfl
  i46 := by kernel_rfl
  i53 := by kernel_rfl
  i212 := by kernel_rfl
  m17 := by kernel_rfl }
open Go.Lib in
theorem Tryz.internal_strconv_numDigits (u : Nat) (h1 : 1 ≤ u) (h2 : u < 18446744073709551616) (w : World) (htab : Lib.TabIs Tryz.prog w "internal/strconv.uint64pow10" .u64 Lib.pow10Tab) :
    Calls Tryz.prog 166 #[.int .u64 u] w fun e w' => e = .returned (.int .i64 (Lib.nDigits u)) ∧ w' = w := Any.internal_strconv_numDigits Tryz.laysM284 u h1 h2 w htab
def Tryz.lays285_ren : Go.Shelf.Ren := ⟨fun | 285 => 167 | n => n, fun | 37 => 93 | 53 => 130 | 3 => 3 | 4 => 4 | 51 => 70 | 9 => 9 | 5 => 5 | 0 => 0 | n => n, fun | n => n⟩
theorem Tryz.lays285 : Go.Proofs.Lays.n285 Tryz.prog Tryz.lays285_ren := {
  mixed := by kernel_rfl
  f285 := Tryz.func167.trans (congrArg some (by kernel_rfl))
  t0 := Tryz.underlying0
  a0 := Tryz.isAgg0
  z0 := Tryz.sizeOf0
  v0 := Tryz.zeroValue0
  t3 := Tryz.underlying3
  a3 := Tryz.isAgg3
  z3 := Tryz.sizeOf3
  v3 := Tryz.zeroValue3
  t4 := Tryz.underlying4
  a4 := Tryz.isAgg4
  z4 := Tryz.sizeOf4
  v4 := Tryz.zeroValue4
  t5 := Tryz.underlying5
  a5 := Tryz.isAgg5
  z5 := Tryz.sizeOf5
  v5 := Tryz.zeroValue5
  t9 := Tryz.underlying9
  a9 := Tryz.isAgg9
  z9 := Tryz.sizeOf9
  v9 := Tryz.zeroValue9
  t37 := Tryz.underlying93
  a37 := Tryz.isAgg93
  z37 := Tryz.sizeOf93
  v37 := Tryz.zeroValue93
  t51 := Tryz.underlying70
  a51 := Tryz.isAgg70
  z51 := Tryz.sizeOf70
  v51 := Tryz.zeroValue70
  t53 := Tryz.underlying130
  a53 := Tryz.isAgg130
  z53 := Tryz.sizeOf130
  v53 := Tryz.zeroValue130 }
open Go.RowKit Go.Sort Go.Lib in
theorem Tryz.internal_strconv_formatBase10 (blk off cap : Nat) (u : Nat) (d : Array UInt8) (w : World) (hH : Holds (fun (b : UInt8) => Value.int .u8 (b.toNat : Int)) w blk off d) (hu : u < 10 ^ d.size) (hu64 : u < 18446744073709551616) (hsz : d.size < 4611686018427387904) :
    Calls Tryz.prog 167 #[.slice (some ⟨blk, off, none⟩) d.size cap, .int .u64 u] w fun e w' =>
      e = .returned (.tuple #[]) ∧ ∃ (n v' : Nat) (dk : Array UInt8), w' = (putRow (fun (b : UInt8) => Value.int .u8 (b.toNat : Int)) w blk off dk).drewN n ∧ FmtInv d.size u 0 v' dk := Any.internal_strconv_formatBase10 Tryz.lays285 blk off cap u d w hH hu hu64 hsz
def Tryz.laysM246_ren : Go.Shelf.Ren := ⟨fun | 246 => 152 | 283 => 165 | 284 => 166 | 285 => 167 | 286 => 168 | 129 => 172 | 317 => 171 | 318 => 173 | 319 => 174 | 320 => 175 | 337 => 176 | 338 => 177 | n => n, fun | 2 => 2 | 3 => 3 | 9 => 9 | 4 => 4 | 171 => 202 | 0 => 0 | 53 => 130 | 37 => 93 | 5 => 5 | 173 => 205 | 212 => 207 | 51 => 70 | 20 => 20 | 213 => 208 | 46 => 168 | 232 => 211 | 233 => 212 | n => n, fun | 17 => 14 | 18 => 15 | 19 => 16 | n => n⟩
theorem Tryz.laysM246 : Go.Proofs.LaysM.n246 Tryz.prog Tryz.laysM246_ren := {
  mixed := by kernel_rfl
  f129 := Tryz.func172.trans (congrArg some (by kernel_rfl))
  f246 := Tryz.func152.trans (congrArg some (by kernel_rfl))
  f283 := Tryz.func165.trans (congrArg some (by kernel_rfl))
  f284 := Tryz.func166.trans (congrArg some (by kernel_rfl))
  f285 := Tryz.func167.trans (congrArg some (by kernel_rfl))
  f286 := Tryz.func168.trans (congrArg some (by kernel_rfl))
  f317 := Tryz.func171.trans (congrArg some (by kernel_rfl))
  f318 := Tryz.func173.trans (congrArg some (by kernel_rfl))
  f319 := Tryz.func174.trans (congrArg some (by kernel_rfl))
  f320 := Tryz.func175.trans (congrArg some (by kernel_rfl))
  f337 := Tryz.func176.trans (congrArg some (by kernel_rfl))
  f338 := Tryz.func177.trans (congrArg some (by kernel_rfl))
  t0 := Tryz.underlying0
  a0 := Tryz.isAgg0
  z0 := Tryz.sizeOf0
  v0 := Tryz.zeroValue0
  t2 := Tryz.underlying2
  a2 := Tryz.isAgg2
  z2 := Tryz.sizeOf2
  v2 := Tryz.zeroValue2
  t3 := Tryz.underlying3
  a3 := Tryz.isAgg3
  z3 := Tryz.sizeOf3
  v3 := Tryz.zeroValue3
  t4 := Tryz.underlying4
  a4 := Tryz.isAgg4
  z4 := Tryz.sizeOf4
  v4 := Tryz.zeroValue4
  t5 := Tryz.underlying5
  a5 := Tryz.isAgg5
  z5 := Tryz.sizeOf5
  v5 := Tryz.zeroValue5
  t9 := Tryz.underlying9
  a9 := Tryz.isAgg9
  z9 := Tryz.sizeOf9
  v9 := Tryz.zeroValue9
  t20 := Tryz.underlying20
  a20 := Tryz.isAgg20
  z20 := Tryz.sizeOf20
  v20 := Tryz.zeroValue20
  t37 := Tryz.underlying93
  a37 := Tryz.isAgg93
  z37 := Tryz.sizeOf93
  v37 := Tryz.zeroValue93
  t46 := Tryz.underlying168
  a46 := Tryz.isAgg168
  z46 := Tryz.sizeOf168
  v46 := Tryz.zeroValue168
  t51 := Tryz.underlying70
  a51 := Tryz.isAgg70
  z51 := Tryz.sizeOf70
  v51 := Tryz.zeroValue70
  t53 := Tryz.underlying130
  a53 := Tryz.isAgg130
  z53 := Tryz.sizeOf130
  v53 := Tryz.zeroValue130
  t171 := Tryz.underlying202
  a171 := Tryz.isAgg202
  z171 := Tryz.sizeOf202
  v171 := Tryz.zeroValue202
  t173 := Tryz.underlying205
  a173 := Tryz.isAgg205
  z173 := Tryz.sizeOf205
  v173 := Tryz.zeroValue205
  t212 := Tryz.underlying207
  a212 := Tryz.isAgg207
  z212 := Tryz.sizeOf207
  v212 := Tryz.zeroValue207
  t213 := Tryz.underlying208
  a213 := Tryz.isAgg208
  z213 := Tryz.sizeOf208
  t232 := Tryz.underlying211
  a232 := Tryz.isAgg211
  z232 := Tryz.sizeOf211
  v232 := Tryz.zeroValue211
  t233 := Tryz.underlying212
  a233 := Tryz.isAgg212
  z233 := Tryz.sizeOf212
  v233 := Tryz.zeroValue212
  g17 := by kernel_rfl
  g18 := by kernel_rfl
  g19 := by kernel_rfl
  i0 := by kernel_rfl
  i2 := by kernel_rfl
  i3 := by kernel_rfl
  i4 := by kernel_rfl
  i5 := by kernel_rfl
  i9 := by kernel_rfl
  i20 := by kernel_rfl
  i37 := by kernel_rfl
  i46 := by kernel_rfl
  i51 := by kernel_rfl
  i53 := by kernel_rfl
  i171 := by kernel_rfl
  i173 := by kernel_rfl
  i212 := by kernel_rfl
  i232 := by kernel_rfl
  i233 := by kernel_rfl
  m17 := by kernel_rfl
  m18 := by kernel_rfl
  m19 := by kernel_rfl }
open Go.RowKit Go.Sort Go.Lib in
theorem Tryz.internal_strconv_FormatInt_10 (n : Int) (h0 : -9223372036854775808 ≤ n) (h1 : n ≤ 9223372036854775807) (w : World) (htab : Lib.TabIs Tryz.prog w "internal/strconv.uint64pow10" .u64 Lib.pow10Tab) :
    Calls Tryz.prog 152 #[.int .i64 n, .int .i64 10] w fun e w' => e = .returned (.string ⟨(Lib.itoa n).toArray⟩) ∧ ∃ k os, w' = grow (w.drewN k) os := Any.internal_strconv_FormatInt_10 Tryz.laysM246 n h0 h1 w htab
def Tryz.lays246_ren : Go.Shelf.Ren := ⟨fun | 246 => 152 | 283 => 165 | 284 => 166 | 285 => 167 | 286 => 168 | 129 => 172 | 317 => 171 | 318 => 173 | 319 => 174 | 320 => 175 | 337 => 176 | 338 => 177 | n => n, fun | 2 => 2 | 3 => 3 | 9 => 9 | 4 => 4 | 171 => 202 | 0 => 0 | 53 => 130 | 37 => 93 | 5 => 5 | 173 => 205 | 212 => 207 | 51 => 70 | 20 => 20 | 213 => 208 | 46 => 168 | 232 => 211 | 233 => 212 | n => n, fun | 17 => 14 | 18 => 15 | 19 => 16 | n => n⟩
theorem Tryz.lays246 : Go.Proofs.Lays.n246 Tryz.prog Tryz.lays246_ren := {
  mixed := by kernel_rfl
  f129 := Tryz.func172.trans (congrArg some (by kernel_rfl))
  f246 := Tryz.func152.trans (congrArg some (by kernel_rfl))
  f283 := Tryz.func165.trans (congrArg some (by kernel_rfl))
  f284 := Tryz.func166.trans (congrArg some (by kernel_rfl))
  f285 := Tryz.func167.trans (congrArg some (by kernel_rfl))
  f286 := Tryz.func168.trans (congrArg some (by kernel_rfl))
  f317 := Tryz.func171.trans (congrArg some (by kernel_rfl))
  f318 := Tryz.func173.trans (congrArg some (by kernel_rfl))
  f319 := Tryz.func174.trans (congrArg some (by kernel_rfl))
  f320 := Tryz.func175.trans (congrArg some (by kernel_rfl))
  f337 := Tryz.func176.trans (congrArg some (by kernel_rfl))
  f338 := Tryz.func177.trans (congrArg some (by kernel_rfl))
  t0 := Tryz.underlying0
  a0 := Tryz.isAgg0
  z0 := Tryz.sizeOf0
  v0 := Tryz.zeroValue0
  t2 := Tryz.underlying2
  a2 := Tryz.isAgg2
  z2 := Tryz.sizeOf2
  v2 := Tryz.zeroValue2
  t3 := Tryz.underlying3
  a3 := Tryz.isAgg3
  z3 := Tryz.sizeOf3
  v3 := Tryz.zeroValue3
  t4 := Tryz.underlying4
  a4 := Tryz.isAgg4
  z4 := Tryz.sizeOf4
  v4 := Tryz.zeroValue4
  t5 := Tryz.underlying5
  a5 := Tryz.isAgg5
  z5 := Tryz.sizeOf5
  v5 := Tryz.zeroValue5
  t9 := Tryz.underlying9
  a9 := Tryz.isAgg9
  z9 := Tryz.sizeOf9
  v9 := Tryz.zeroValue9
  t20 := Tryz.underlying20
  a20 := Tryz.isAgg20
  z20 := Tryz.sizeOf20
  v20 := Tryz.zeroValue20
  t37 := Tryz.underlying93
  a37 := Tryz.isAgg93
  z37 := Tryz.sizeOf93
  v37 := Tryz.zeroValue93
  t46 := Tryz.underlying168
  a46 := Tryz.isAgg168
  z46 := Tryz.sizeOf168
  v46 := Tryz.zeroValue168
  t51 := Tryz.underlying70
  a51 := Tryz.isAgg70
  z51 := Tryz.sizeOf70
  v51 := Tryz.zeroValue70
  t53 := Tryz.underlying130
  a53 := Tryz.isAgg130
  z53 := Tryz.sizeOf130
  v53 := Tryz.zeroValue130
  t171 := Tryz.underlying202
  a171 := Tryz.isAgg202
  z171 := Tryz.sizeOf202
  v171 := Tryz.zeroValue202
  t173 := Tryz.underlying205
  a173 := Tryz.isAgg205
  z173 := Tryz.sizeOf205
  v173 := Tryz.zeroValue205
  t212 := Tryz.underlying207
  a212 := Tryz.isAgg207
  z212 := Tryz.sizeOf207
  v212 := Tryz.zeroValue207
  t213 := Tryz.underlying208
  a213 := Tryz.isAgg208
  z213 := Tryz.sizeOf208
  t232 := Tryz.underlying211
  a232 := Tryz.isAgg211
  z232 := Tryz.sizeOf211
  v232 := Tryz.zeroValue211
  t233 := Tryz.underlying212
  a233 := Tryz.isAgg212
  z233 := Tryz.sizeOf212
  v233 := Tryz.zeroValue212
  g17 := by kernel_rfl
  g18 := by kernel_rfl
  g19 := by kernel_rfl }
open Go.RowKit Go.Sort Go.Lib in
theorem Tryz.internal_strconv_FormatInt_10_small (i : Nat) (hi : i < 100) (w : World) :
    Calls Tryz.prog 152 #[.int .i64 i, .int .i64 10] w fun e w' => e = .returned (.string ⟨(Lib.decDigits i).toArray⟩) ∧ w' = w := Any.internal_strconv_FormatInt_10_small Tryz.lays246 i hi w
def Tryz.laysM243_ren : Go.Shelf.Ren := ⟨fun | 243 => 114 | 246 => 152 | 283 => 165 | 284 => 166 | 285 => 167 | 286 => 168 | 129 => 172 | 317 => 171 | 318 => 173 | 319 => 174 | 320 => 175 | 337 => 176 | 338 => 177 | n => n, fun | 3 => 3 | 9 => 9 | 2 => 2 | 4 => 4 | 171 => 202 | 0 => 0 | 53 => 130 | 37 => 93 | 5 => 5 | 173 => 205 | 212 => 207 | 51 => 70 | 20 => 20 | 213 => 208 | 46 => 168 | 232 => 211 | 233 => 212 | n => n, fun | 17 => 14 | 18 => 15 | 19 => 16 | n => n⟩
theorem Tryz.laysM243 : Go.Proofs.LaysM.n243 Tryz.prog Tryz.laysM243_ren := {
  mixed := by kernel_rfl
  f129 := Tryz.func172.trans (congrArg some (by kernel_rfl))
  f243 := Tryz.func114.trans (congrArg some (by kernel_rfl))
  f246 := Tryz.func152.trans (congrArg some (by kernel_rfl))
  f283 := Tryz.func165.trans (congrArg some (by kernel_rfl))
  f284 := Tryz.func166.trans (congrArg some (by kernel_rfl))
  f285 := Tryz.func167.trans (congrArg some (by kernel_rfl))
  f286 := Tryz.func168.trans (congrArg some (by kernel_rfl))
  f317 := Tryz.func171.trans (congrArg some (by kernel_rfl))
  f318 := Tryz.func173.trans (congrArg some (by kernel_rfl))
  f319 := Tryz.func174.trans (congrArg some (by kernel_rfl))
  f320 := Tryz.func175.trans (congrArg some (by kernel_rfl))
  f337 := Tryz.func176.trans (congrArg some (by kernel_rfl))
  f338 := Tryz.func177.trans (congrArg some (by kernel_rfl))
  t0 := Tryz.underlying0
  a0 := Tryz.isAgg0
  z0 := Tryz.sizeOf0
  v0 := Tryz.zeroValue0
  t2 := Tryz.underlying2
  a2 := Tryz.isAgg2
  z2 := Tryz.sizeOf2
  v2 := Tryz.zeroValue2
  t3 := Tryz.underlying3
  a3 := Tryz.isAgg3
  z3 := Tryz.sizeOf3
  v3 := Tryz.zeroValue3
  t4 := Tryz.underlying4
  a4 := Tryz.isAgg4
  z4 := Tryz.sizeOf4
  v4 := Tryz.zeroValue4
  t5 := Tryz.underlying5
  a5 := Tryz.isAgg5
  z5 := Tryz.sizeOf5
  v5 := Tryz.zeroValue5
  t9 := Tryz.underlying9
  a9 := Tryz.isAgg9
  z9 := Tryz.sizeOf9
  v9 := Tryz.zeroValue9
  t20 := Tryz.underlying20
  a20 := Tryz.isAgg20
  z20 := Tryz.sizeOf20
  v20 := Tryz.zeroValue20
  t37 := Tryz.underlying93
  a37 := Tryz.isAgg93
  z37 := Tryz.sizeOf93
  v37 := Tryz.zeroValue93
  t46 := Tryz.underlying168
  a46 := Tryz.isAgg168
  z46 := Tryz.sizeOf168
  v46 := Tryz.zeroValue168
  t51 := Tryz.underlying70
  a51 := Tryz.isAgg70
  z51 := Tryz.sizeOf70
  v51 := Tryz.zeroValue70
  t53 := Tryz.underlying130
  a53 := Tryz.isAgg130
  z53 := Tryz.sizeOf130
  v53 := Tryz.zeroValue130
  t171 := Tryz.underlying202
  a171 := Tryz.isAgg202
  z171 := Tryz.sizeOf202
  v171 := Tryz.zeroValue202
  t173 := Tryz.underlying205
  a173 := Tryz.isAgg205
  z173 := Tryz.sizeOf205
  v173 := Tryz.zeroValue205
  t212 := Tryz.underlying207
  a212 := Tryz.isAgg207
  z212 := Tryz.sizeOf207
  v212 := Tryz.zeroValue207
  t213 := Tryz.underlying208
  a213 := Tryz.isAgg208
  z213 := Tryz.sizeOf208
  t232 := Tryz.underlying211
  a232 := Tryz.isAgg211
  z232 := Tryz.sizeOf211
  v232 := Tryz.zeroValue211
  t233 := Tryz.underlying212
  a233 := Tryz.isAgg212
  z233 := Tryz.sizeOf212
  v233 := Tryz.zeroValue212
  g17 := by kernel_rfl
  g18 := by kernel_rfl
  g19 := by kernel_rfl
  i0 := by kernel_rfl
  i2 := by kernel_rfl
  i3 := by kernel_rfl
  i4 := by kernel_rfl
  i5 := by kernel_rfl
  i9 := by kernel_rfl
  i20 := by kernel_rfl
  i37 := by kernel_rfl
  i46 := by kernel_rfl
  i51 := by kernel_rfl
  i53 := by kernel_rfl
  i171 := by kernel_rfl
  i173 := by kernel_rfl
  i212 := by kernel_rfl
  i232 := by kernel_rfl
  i233 := by kernel_rfl
  m17 := by kernel_rfl
  m18 := by kernel_rfl
  m19 := by kernel_rfl }
open Go.RowKit Go.Sort Go.Lib in
theorem Tryz.internal_strconv_Itoa (n : Int) (h0 : -9223372036854775808 ≤ n) (h1 : n ≤ 9223372036854775807) (w : World) (htab : Lib.TabIs Tryz.prog w "internal/strconv.uint64pow10" .u64 Lib.pow10Tab) :
    Calls Tryz.prog 114 #[.int .i64 n] w fun e w' => e = .returned (.string ⟨(Lib.itoa n).toArray⟩) ∧ ∃ k os, w' = grow (w.drewN k) os := Any.internal_strconv_Itoa Tryz.laysM243 n h0 h1 w htab
def Tryz.lays243_ren : Go.Shelf.Ren := ⟨fun | 243 => 114 | 246 => 152 | 283 => 165 | 284 => 166 | 285 => 167 | 286 => 168 | 129 => 172 | 317 => 171 | 318 => 173 | 319 => 174 | 320 => 175 | 337 => 176 | 338 => 177 | n => n, fun | 3 => 3 | 9 => 9 | 2 => 2 | 4 => 4 | 171 => 202 | 0 => 0 | 53 => 130 | 37 => 93 | 5 => 5 | 173 => 205 | 212 => 207 | 51 => 70 | 20 => 20 | 213 => 208 | 46 => 168 | 232 => 211 | 233 => 212 | n => n, fun | 17 => 14 | 18 => 15 | 19 => 16 | n => n⟩
theorem Tryz.lays243 : Go.Proofs.Lays.n243 Tryz.prog Tryz.lays243_ren := {
  mixed := by kernel_rfl
  f129 := Tryz.func172.trans (congrArg some (by kernel_rfl))
  f243 := Tryz.func114.trans (congrArg some (by kernel_rfl))
  f246 := Tryz.func152.trans (congrArg some (by kernel_rfl))
  f283 := Tryz.func165.trans (congrArg some (by kernel_rfl))
  f284 := Tryz.func166.trans (congrArg some (by kernel_rfl))
  f285 := Tryz.func167.trans (congrArg some (by kernel_rfl))
  f286 := Tryz.func168.trans (congrArg some (by kernel_rfl))
  f317 := Tryz.func171.trans (congrArg some (by kernel_rfl))
  f318 := Tryz.func173.trans (congrArg some (by kernel_rfl))
  f319 := Tryz.func174.trans (congrArg some (by kernel_rfl))
  f320 := Tryz.func175.trans (congrArg some (by kernel_rfl))
  f337 := Tryz.func176.trans (congrArg some (by kernel_rfl))
  f338 := Tryz.func177.trans (congrArg some (by kernel_rfl))
  t0 := Tryz.underlying0
  a0 := Tryz.isAgg0
  z0 := Tryz.sizeOf0
  v0 := Tryz.zeroValue0
  t2 := Tryz.underlying2
  a2 := Tryz.isAgg2
  z2 := Tryz.sizeOf2
  v2 := Tryz.zeroValue2
  t3 := Tryz.underlying3
  a3 := Tryz.isAgg3
  z3 := Tryz.sizeOf3
  v3 := Tryz.zeroValue3
  t4 := Tryz.underlying4
  a4 := Tryz.isAgg4
  z4 := Tryz.sizeOf4
  v4 := Tryz.zeroValue4
  t5 := Tryz.underlying5
  a5 := Tryz.isAgg5
  z5 := Tryz.sizeOf5
  v5 := Tryz.zeroValue5
  t9 := Tryz.underlying9
  a9 := Tryz.isAgg9
  z9 := Tryz.sizeOf9
  v9 := Tryz.zeroValue9
  t20 := Tryz.underlying20
  a20 := Tryz.isAgg20
  z20 := Tryz.sizeOf20
  v20 := Tryz.zeroValue20
  t37 := Tryz.underlying93
  a37 := Tryz.isAgg93
  z37 := Tryz.sizeOf93
  v37 := Tryz.zeroValue93
  t46 := Tryz.underlying168
  a46 := Tryz.isAgg168
  z46 := Tryz.sizeOf168
  v46 := Tryz.zeroValue168
  t51 := Tryz.underlying70
  a51 := Tryz.isAgg70
  z51 := Tryz.sizeOf70
  v51 := Tryz.zeroValue70
  t53 := Tryz.underlying130
  a53 := Tryz.isAgg130
  z53 := Tryz.sizeOf130
  v53 := Tryz.zeroValue130
  t171 := Tryz.underlying202
  a171 := Tryz.isAgg202
  z171 := Tryz.sizeOf202
  v171 := Tryz.zeroValue202
  t173 := Tryz.underlying205
  a173 := Tryz.isAgg205
  z173 := Tryz.sizeOf205
  v173 := Tryz.zeroValue205
  t212 := Tryz.underlying207
  a212 := Tryz.isAgg207
  z212 := Tryz.sizeOf207
  v212 := Tryz.zeroValue207
  t213 := Tryz.underlying208
  a213 := Tryz.isAgg208
  z213 := Tryz.sizeOf208
  t232 := Tryz.underlying211
  a232 := Tryz.isAgg211
  z232 := Tryz.sizeOf211
  v232 := Tryz.zeroValue211
  t233 := Tryz.underlying212
  a233 := Tryz.isAgg212
  z233 := Tryz.sizeOf212
  v233 := Tryz.zeroValue212
  g17 := by kernel_rfl
  g18 := by kernel_rfl
  g19 := by kernel_rfl }
open Go.RowKit Go.Sort Go.Lib in
theorem Tryz.internal_strconv_Itoa_small (i : Nat) (hi : i < 100) (w : World) :
    Calls Tryz.prog 114 #[.int .i64 i] w fun e w' => e = .returned (.string ⟨(Lib.decDigits i).toArray⟩) ∧ w' = w := Any.internal_strconv_Itoa_small Tryz.lays243 i hi w
def Tryz.laysM171_ren : Go.Shelf.Ren := ⟨fun | 171 => 54 | 243 => 114 | 246 => 152 | 283 => 165 | 284 => 166 | 285 => 167 | 286 => 168 | 129 => 172 | 317 => 171 | 318 => 173 | 319 => 174 | 320 => 175 | 337 => 176 | 338 => 177 | n => n, fun | 3 => 3 | 9 => 9 | 2 => 2 | 4 => 4 | 171 => 202 | 0 => 0 | 53 => 130 | 37 => 93 | 5 => 5 | 173 => 205 | 212 => 207 | 51 => 70 | 20 => 20 | 213 => 208 | 46 => 168 | 232 => 211 | 233 => 212 | n => n, fun | 17 => 14 | 18 => 15 | 19 => 16 | n => n⟩
theorem Tryz.laysM171 : Go.Proofs.LaysM.n171 Tryz.prog Tryz.laysM171_ren := {
  mixed := by kernel_rfl
  f129 := Tryz.func172.trans (congrArg some (by kernel_rfl))
  f171 := Tryz.func54.trans (congrArg some (by kernel_rfl))
  f243 := Tryz.func114.trans (congrArg some (by kernel_rfl))
  f246 := Tryz.func152.trans (congrArg some (by kernel_rfl))
  f283 := Tryz.func165.trans (congrArg some (by kernel_rfl))
  f284 := Tryz.func166.trans (congrArg some (by kernel_rfl))
  f285 := Tryz.func167.trans (congrArg some (by kernel_rfl))
  f286 := Tryz.func168.trans (congrArg some (by kernel_rfl))
  f317 := Tryz.func171.trans (congrArg some (by kernel_rfl))
  f318 := Tryz.func173.trans (congrArg some (by kernel_rfl))
  f319 := Tryz.func174.trans (congrArg some (by kernel_rfl))
  f320 := Tryz.func175.trans (congrArg some (by kernel_rfl))
  f337 := Tryz.func176.trans (congrArg some (by kernel_rfl))
  f338 := Tryz.func177.trans (congrArg some (by kernel_rfl))
  t0 := Tryz.underlying0
  a0 := Tryz.isAgg0
  z0 := Tryz.sizeOf0
  v0 := Tryz.zeroValue0
  t2 := Tryz.underlying2
  a2 := Tryz.isAgg2
  z2 := Tryz.sizeOf2
  v2 := Tryz.zeroValue2
  t3 := Tryz.underlying3
  a3 := Tryz.isAgg3
  z3 := Tryz.sizeOf3
  v3 := Tryz.zeroValue3
  t4 := Tryz.underlying4
  a4 := Tryz.isAgg4
  z4 := Tryz.sizeOf4
  v4 := Tryz.zeroValue4
  t5 := Tryz.underlying5
  a5 := Tryz.isAgg5
  z5 := Tryz.sizeOf5
  v5 := Tryz.zeroValue5
  t9 := Tryz.underlying9
  a9 := Tryz.isAgg9
  z9 := Tryz.sizeOf9
  v9 := Tryz.zeroValue9
  t20 := Tryz.underlying20
  a20 := Tryz.isAgg20
  z20 := Tryz.sizeOf20
  v20 := Tryz.zeroValue20
  t37 := Tryz.underlying93
  a37 := Tryz.isAgg93
  z37 := Tryz.sizeOf93
  v37 := Tryz.zeroValue93
  t46 := Tryz.underlying168
  a46 := Tryz.isAgg168
  z46 := Tryz.sizeOf168
  v46 := Tryz.zeroValue168
  t51 := Tryz.underlying70
  a51 := Tryz.isAgg70
  z51 := Tryz.sizeOf70
  v51 := Tryz.zeroValue70
  t53 := Tryz.underlying130
  a53 := Tryz.isAgg130
  z53 := Tryz.sizeOf130
  v53 := Tryz.zeroValue130
  t171 := Tryz.underlying202
  a171 := Tryz.isAgg202
  z171 := Tryz.sizeOf202
  v171 := Tryz.zeroValue202
  t173 := Tryz.underlying205
  a173 := Tryz.isAgg205
  z173 := Tryz.sizeOf205
  v173 := Tryz.zeroValue205
  t212 := Tryz.underlying207
  a212 := Tryz.isAgg207
  z212 := Tryz.sizeOf207
  v212 := Tryz.zeroValue207
  t213 := Tryz.underlying208
  a213 := Tryz.isAgg208
  z213 := Tryz.sizeOf208
  t232 := Tryz.underlying211
  a232 := Tryz.isAgg211
  z232 := Tryz.sizeOf211
  v232 := Tryz.zeroValue211
  t233 := Tryz.underlying212
  a233 := Tryz.isAgg212
  z233 := Tryz.sizeOf212
  v233 := Tryz.zeroValue212
  g17 := by kernel_rfl
  g18 := by kernel_rfl
  g19 := by kernel_rfl
  i0 := by kernel_rfl
  i2 := by kernel_rfl
  i3 := by kernel_rfl
  i4 := by kernel_rfl
  i5 := by kernel_rfl
  i9 := by kernel_rfl
  i20 := by kernel_rfl
  i37 := by kernel_rfl
  i46 := by kernel_rfl
  i51 := by kernel_rfl
  i53 := by kernel_rfl
  i171 := by kernel_rfl
  i173 := by kernel_rfl
  i212 := by kernel_rfl
  i232 := by kernel_rfl
  i233 := by kernel_rfl
  m17 := by kernel_rfl
  m18 := by kernel_rfl
  m19 := by kernel_rfl }
open Go.RowKit Go.Sort Go.Lib in
theorem Tryz.strconv_Itoa (n : Int) (h0 : -9223372036854775808 ≤ n) (h1 : n ≤ 9223372036854775807) (w : World) (htab : Lib.TabIs Tryz.prog w "internal/strconv.uint64pow10" .u64 Lib.pow10Tab) :
    Calls Tryz.prog 54 #[.int .i64 n] w fun e w' => e = .returned (.string ⟨(Lib.itoa n).toArray⟩) ∧ ∃ k os, w' = grow (w.drewN k) os := Any.strconv_Itoa Tryz.laysM171 n h0 h1 w htab
def Tryz.lays171_ren : Go.Shelf.Ren := ⟨fun | 171 => 54 | 243 => 114 | 246 => 152 | 283 => 165 | 284 => 166 | 285 => 167 | 286 => 168 | 129 => 172 | 317 => 171 | 318 => 173 | 319 => 174 | 320 => 175 | 337 => 176 | 338 => 177 | n => n, fun | 3 => 3 | 9 => 9 | 2 => 2 | 4 => 4 | 171 => 202 | 0 => 0 | 53 => 130 | 37 => 93 | 5 => 5 | 173 => 205 | 212 => 207 | 51 => 70 | 20 => 20 | 213 => 208 | 46 => 168 | 232 => 211 | 233 => 212 | n => n, fun | 17 => 14 | 18 => 15 | 19 => 16 | n => n⟩
theorem Tryz.lays171 : Go.Proofs.Lays.n171 Tryz.prog Tryz.lays171_ren := {
  mixed := by kernel_rfl
  f129 := Tryz.func172.trans (congrArg some (by kernel_rfl))
  f171 := Tryz.func54.trans (congrArg some (by kernel_rfl))
  f243 := Tryz.func114.trans (congrArg some (by kernel_rfl))
  f246 := Tryz.func152.trans (congrArg some (by kernel_rfl))
  f283 := Tryz.func165.trans (congrArg some (by kernel_rfl))
  f284 := Tryz.func166.trans (congrArg some (by kernel_rfl))
  f285 := Tryz.func167.trans (congrArg some (by kernel_rfl))
  f286 := Tryz.func168.trans (congrArg some (by kernel_rfl))
  f317 := Tryz.func171.trans (congrArg some (by kernel_rfl))
  f318 := Tryz.func173.trans (congrArg some (by kernel_rfl))
  f319 := Tryz.func174.trans (congrArg some (by kernel_rfl))
  f320 := Tryz.func175.trans (congrArg some (by kernel_rfl))
  f337 := Tryz.func176.trans (congrArg some (by kernel_rfl))
  f338 := Tryz.func177.trans (congrArg some (by kernel_rfl))
  t0 := Tryz.underlying0
  a0 := Tryz.isAgg0
  z0 := Tryz.sizeOf0
  v0 := Tryz.zeroValue0
  t2 := Tryz.underlying2
  a2 := Tryz.isAgg2
  z2 := Tryz.sizeOf2
  v2 := Tryz.zeroValue2
  t3 := Tryz.underlying3
  a3 := Tryz.isAgg3
  z3 := Tryz.sizeOf3
  v3 := Tryz.zeroValue3
  t4 := Tryz.underlying4
  a4 := Tryz.isAgg4
  z4 := Tryz.sizeOf4
  v4 := Tryz.zeroValue4
  t5 := Tryz.underlying5
  a5 := Tryz.isAgg5
  z5 := Tryz.sizeOf5
  v5 := Tryz.zeroValue5
  t9 := Tryz.underlying9
  a9 := Tryz.isAgg9
  z9 := Tryz.sizeOf9
  v9 := Tryz.zeroValue9
  t20 := Tryz.underlying20
  a20 := Tryz.isAgg20
  z20 := Tryz.sizeOf20
  v20 := Tryz.zeroValue20
  t37 := Tryz.underlying93
  a37 := Tryz.isAgg93
  z37 := Tryz.sizeOf93
  v37 := Tryz.zeroValue93
  t46 := Tryz.underlying168
  a46 := Tryz.isAgg168
  z46 := Tryz.sizeOf168
  v46 := Tryz.zeroValue168
  t51 := Tryz.underlying70
  a51 := Tryz.isAgg70
  z51 := Tryz.sizeOf70
  v51 := Tryz.zeroValue70
  t53 := Tryz.underlying130
  a53 := Tryz.isAgg130
  z53 := Tryz.sizeOf130
  v53 := Tryz.zeroValue130
  t171 := Tryz.underlying202
  a171 := Tryz.isAgg202
  z171 := Tryz.sizeOf202
  v171 := Tryz.zeroValue202
  t173 := Tryz.underlying205
  a173 := Tryz.isAgg205
  z173 := Tryz.sizeOf205
  v173 := Tryz.zeroValue205
  t212 := Tryz.underlying207
  a212 := Tryz.isAgg207
  z212 := Tryz.sizeOf207
  v212 := Tryz.zeroValue207
  t213 := Tryz.underlying208
  a213 := Tryz.isAgg208
  z213 := Tryz.sizeOf208
  t232 := Tryz.underlying211
  a232 := Tryz.isAgg211
  z232 := Tryz.sizeOf211
  v232 := Tryz.zeroValue211
  t233 := Tryz.underlying212
  a233 := Tryz.isAgg212
  z233 := Tryz.sizeOf212
  v233 := Tryz.zeroValue212
  g17 := by kernel_rfl
  g18 := by kernel_rfl
  g19 := by kernel_rfl }
open Go.RowKit Go.Sort Go.Lib in
theorem Tryz.strconv_Itoa_small (i : Nat) (hi : i < 100) (w : World) :
    Calls Tryz.prog 54 #[.int .i64 i] w fun e w' => e = .returned (.string ⟨(Lib.decDigits i).toArray⟩) ∧ w' = w := Any.strconv_Itoa_small Tryz.lays171 i hi w
def Tryz.lays264_ren : Go.Shelf.Ren := ⟨fun | 264 => 164 | n => n, fun | 53 => 130 | 46 => 168 | n => n, fun | n => n⟩
theorem Tryz.lays264 : Go.Proofs.Lays.n264 Tryz.prog Tryz.lays264_ren := {
  mixed := by kernel_rfl
  f264 := Tryz.func164.trans (congrArg some (by kernel_rfl))
  t46 := Tryz.underlying168
  a46 := Tryz.isAgg168
  z46 := Tryz.sizeOf168
  v46 := Tryz.zeroValue168
  t53 := Tryz.underlying130
  a53 := Tryz.isAgg130
  z53 := Tryz.sizeOf130
  v53 := Tryz.zeroValue130 }
open Go.RowKit Go.Lib in
theorem Tryz.bits_Mul64 (x y : Nat) (hx : x < 18446744073709551616) (hy : y < 18446744073709551616) (w : World) :
    Calls Tryz.prog 164 #[.int .u64 x, .int .u64 y] w fun e w' => e = .returned (.tuple #[.int .u64 ((x * y / 18446744073709551616 : Nat) : Int), .int .u64 ((x * y % 18446744073709551616 : Nat) : Int)]) ∧ w' = w := Any.bits_Mul64 Tryz.lays264 x y hx hy w
def Tryz.lays212_ren : Go.Shelf.Ren := ⟨fun | 212 => 150 | 263 => 163 | 264 => 164 | n => n, fun | 46 => 168 | 51 => 70 | 146 => 177 | 53 => 130 | 148 => 200 | n => n, fun | n => n⟩
theorem Tryz.lays212 : Go.Proofs.Lays.n212 Tryz.prog Tryz.lays212_ren := {
  mixed := by kernel_rfl
  f212 := Tryz.func150.trans (congrArg some (by kernel_rfl))
  f263 := Tryz.func163.trans (congrArg some (by kernel_rfl))
  f264 := Tryz.func164.trans (congrArg some (by kernel_rfl))
  t46 := Tryz.underlying168
  a46 := Tryz.isAgg168
  z46 := Tryz.sizeOf168
  v46 := Tryz.zeroValue168
  t51 := Tryz.underlying70
  a51 := Tryz.isAgg70
  z51 := Tryz.sizeOf70
  v51 := Tryz.zeroValue70
  t53 := Tryz.underlying130
  a53 := Tryz.isAgg130
  z53 := Tryz.sizeOf130
  v53 := Tryz.zeroValue130
  t146 := Tryz.underlying177
  a146 := Tryz.isAgg177
  z146 := Tryz.sizeOf177
  v146 := Tryz.zeroValue177
  t148 := Tryz.underlying200
  a148 := Tryz.isAgg200
  z148 := Tryz.sizeOf200
  v148 := Tryz.zeroValue200 }
open Go.RowKit Go.Lib in
theorem Tryz.bits_Mul (x y : Nat) (hx : x < 18446744073709551616) (hy : y < 18446744073709551616) (w : World) :
    Calls Tryz.prog 150 #[.int .u64 x, .int .u64 y] w fun e w' => e = .returned (.tuple #[.int .u64 ((x * y / 18446744073709551616 : Nat) : Int), .int .u64 ((x * y % 18446744073709551616 : Nat) : Int)]) ∧ w' = w := Any.bits_Mul Tryz.lays212 x y hx hy w
def Tryz.lays108_ren : Go.Shelf.Ren := ⟨fun | 108 => 157 | n => n, fun | 28 => 24 | 3 => 3 | 0 => 0 | 4 => 4 | n => n, fun | n => n⟩
theorem Tryz.lays108 : Go.Proofs.Lays.n108 Tryz.prog Tryz.lays108_ren := {
  mixed := by kernel_rfl
  f108 := Tryz.func157.trans (congrArg some (by kernel_rfl))
  t0 := Tryz.underlying0
  a0 := Tryz.isAgg0
  z0 := Tryz.sizeOf0
  v0 := Tryz.zeroValue0
  t3 := Tryz.underlying3
  a3 := Tryz.isAgg3
  z3 := Tryz.sizeOf3
  v3 := Tryz.zeroValue3
  t4 := Tryz.underlying4
  a4 := Tryz.isAgg4
  z4 := Tryz.sizeOf4
  v4 := Tryz.zeroValue4
  t28 := Tryz.underlying24
  a28 := Tryz.isAgg24
  z28 := Tryz.sizeOf24
  v28 := Tryz.zeroValue24 }
open Go.Lib in
theorem Tryz.slices_Index_int (b off n c : Nat) (zs : List Int) (x : Int) (w : World) (hz : n ≤ zs.length) (hbig : n ≤ 9223372036854775807) (hc : ∀ j, j < zs.length → w.cell? ⟨b, off + j, none⟩ = some (.int .i64 (zs.getD j 0))) :
    Calls Tryz.prog 157 #[.slice (some ⟨b, off, none⟩) n c, .int .i64 x] w fun e w' => e = .returned (.int .i64 (Lib.idxOf (zs.take n) x)) ∧ w' = w := Any.slices_Index_int Tryz.lays108 b off n c zs x w hz hbig hc
open Go.Lib in
theorem Tryz.slices_Index_int_empty (a : Option Addr) (c : Nat) (x : Int) (w : World) :
    Calls Tryz.prog 157 #[.slice a 0 c, .int .i64 x] w fun e w' => e = .returned (.int .i64 (Lib.idxOf [] x)) ∧ w' = w := Any.slices_Index_int_empty Tryz.lays108 a c x w
def Tryz.lays112_ren : Go.Shelf.Ren := ⟨fun | 112 => 109 | n => n, fun | 28 => 24 | 3 => 3 | 4 => 4 | 0 => 0 | n => n, fun | n => n⟩
theorem Tryz.lays112 : Go.Proofs.Lays.n112 Tryz.prog Tryz.lays112_ren := {
  mixed := by kernel_rfl
  f112 := Tryz.func109.trans (congrArg some (by kernel_rfl))
  t0 := Tryz.underlying0
  a0 := Tryz.isAgg0
  z0 := Tryz.sizeOf0
  v0 := Tryz.zeroValue0
  t3 := Tryz.underlying3
  a3 := Tryz.isAgg3
  z3 := Tryz.sizeOf3
  v3 := Tryz.zeroValue3
  t4 := Tryz.underlying4
  a4 := Tryz.isAgg4
  z4 := Tryz.sizeOf4
  v4 := Tryz.zeroValue4
  t28 := Tryz.underlying24
  a28 := Tryz.isAgg24
  z28 := Tryz.sizeOf24
  v28 := Tryz.zeroValue24 }
open Go.RowKit Go.Lib Go.Sort in
theorem Tryz.slices_Reverse_int_arr (blk off cap : Nat) (d : Array Int) (w : World) (hH : Holds encI w blk off d) (hsz : d.size ≤ 9223372036854775807) :
    Calls Tryz.prog 109 #[.slice (some ⟨blk, off, none⟩) d.size cap] w fun e w' => e = .returned (.tuple #[]) ∧ ∃ n, w' = putRow encI (Sort.ahead w n) blk off d.reverse := Any.slices_Reverse_int_arr Tryz.lays112 blk off cap d w hH hsz
open Go.RowKit Go.Lib Go.Sort in
theorem Tryz.slices_Reverse_int (blk off cap : Nat) (zs : List Int) (w : World) (hH : Holds (Value.int .i64) w blk off zs.toArray) (hsz : zs.length ≤ 9223372036854775807) :
    Calls Tryz.prog 109 #[.slice (some ⟨blk, off, none⟩) zs.length cap] w fun e w' => e = .returned (.tuple #[]) ∧ ∃ n, w' = putRow (Value.int .i64) (Sort.ahead w n) blk off zs.reverse.toArray := Any.slices_Reverse_int Tryz.lays112 blk off cap zs w hH hsz
open Go.RowKit Go.Lib Go.Sort in
theorem Tryz.slices_Reverse_int_empty (a : Option Addr) (cap : Nat) (w : World) :
    Calls Tryz.prog 109 #[.slice a 0 cap] w fun e w' => e = .returned (.tuple #[]) ∧ w' = w := Any.slices_Reverse_int_empty Tryz.lays112 a cap w
def Tryz.lays111_ren : Go.Shelf.Ren := ⟨fun | 111 => 88 | n => n, fun | 28 => 24 | 3 => 3 | 4 => 4 | 0 => 0 | n => n, fun | n => n⟩
theorem Tryz.lays111 : Go.Proofs.Lays.n111 Tryz.prog Tryz.lays111_ren := {
  mixed := by kernel_rfl
  f111 := Tryz.func88.trans (congrArg some (by kernel_rfl))
  t0 := Tryz.underlying0
  a0 := Tryz.isAgg0
  z0 := Tryz.sizeOf0
  v0 := Tryz.zeroValue0
  t3 := Tryz.underlying3
  a3 := Tryz.isAgg3
  z3 := Tryz.sizeOf3
  v3 := Tryz.zeroValue3
  t4 := Tryz.underlying4
  a4 := Tryz.isAgg4
  z4 := Tryz.sizeOf4
  v4 := Tryz.zeroValue4
  t28 := Tryz.underlying24
  a28 := Tryz.isAgg24
  z28 := Tryz.sizeOf24
  v28 := Tryz.zeroValue24 }
open Go.RowKit Go.Lib in
theorem Tryz.slices_Equal_int (b1 o1 n c b2 o2 m d : Nat) (xs ys : List Int) (w : World) (hx : n ≤ xs.length) (hy : m ≤ ys.length) (hbig : n ≤ 9223372036854775807) (hbig2 : m ≤ 9223372036854775807) (hc1 : ∀ j, j < xs.length → w.cell? ⟨b1, o1 + j, none⟩ = some (.int .i64 (xs.getD j 0))) (hc2 : ∀ j, j < ys.length → w.cell? ⟨b2, o2 + j, none⟩ = some (.int .i64 (ys.getD j 0))) :
    Calls Tryz.prog 88 #[.slice (some ⟨b1, o1, none⟩) n c, .slice (some ⟨b2, o2, none⟩) m d] w fun e w' => e = .returned (.bool (xs.take n == ys.take m)) ∧ ∃ q, w' = w.drewN q := Any.slices_Equal_int Tryz.lays111 b1 o1 n c b2 o2 m d xs ys w hx hy hbig hbig2 hc1 hc2
open Go.RowKit Go.Lib in
theorem Tryz.slices_Equal_int_empty (a1 a2 : Option Addr) (c m d : Nat) (w : World) (hbig2 : m ≤ 9223372036854775807) :
    Calls Tryz.prog 88 #[.slice a1 0 c, .slice a2 m d] w fun e w' => e = .returned (.bool (decide (m = 0))) ∧ w' = w := Any.slices_Equal_int_empty Tryz.lays111 a1 a2 c m d w hbig2
def Tryz.laysNm215_ren : Go.Shelf.Ren := ⟨fun | 15 => 90 | n => n, fun | 22 => 24 | 3 => 3 | 4 => 4 | n => n, fun | n => n⟩
theorem Tryz.laysNm215 : Go.Proofs.Lays2.n15 Tryz.prog Tryz.laysNm215_ren := {
  mixed := by kernel_rfl
  f15 := Tryz.func90.trans (congrArg some (by kernel_rfl))
  t3 := Tryz.underlying3
  a3 := Tryz.isAgg3
  z3 := Tryz.sizeOf3
  v3 := Tryz.zeroValue3
  t4 := Tryz.underlying4
  a4 := Tryz.isAgg4
  z4 := Tryz.sizeOf4
  v4 := Tryz.zeroValue4
  t22 := Tryz.underlying24
  a22 := Tryz.isAgg24
  z22 := Tryz.sizeOf24
  v22 := Tryz.zeroValue24
  i3 := by kernel_rfl }
open Go.RowKit Go.Lib in
theorem Tryz.slices_Clone_int (b off n c : Nat) (zs : List Int) (w : World) (hz : n ≤ zs.length) (hbig : n * 8 ≤ 140737488355328) (hc : ∀ j, j < zs.length → w.cell? ⟨b, off + j, none⟩ = some (.int .i64 (zs.getD j 0))) :
    Calls Tryz.prog 90 #[.slice (some ⟨b, off, none⟩) n c] w fun e w' => ∃ v', e = .returned v' ∧ w'.ownsRow w.heap.size 3 1 v' n ((zs.take n).map (Value.int .i64)) ∧ v' ≠ .slice none 0 0 ∧ Below w.heap.size w w' := Any.slices_Clone_int Tryz.laysNm215 b off n c zs w hz hbig hc
open Go.RowKit Go.Lib in
theorem Tryz.slices_Clone_int_nil (n c : Nat) (w : World) :
    Calls Tryz.prog 90 #[.slice none n c] w fun e w' => e = .returned (.slice none 0 0) ∧ w' = w := Any.slices_Clone_int_nil Tryz.laysNm215 n c w
open Go.RowKit Go.Lib in
theorem Tryz.slices_Clone_int_zero (a : Addr) (c : Nat) (w : World) :
    Calls Tryz.prog 90 #[.slice (some a) 0 c] w fun e w' => ∃ v', e = .returned v' ∧ w'.ownsRow w.heap.size 3 1 v' 0 [] ∧ v' ≠ .slice none 0 0 ∧ Below w.heap.size w w' := Any.slices_Clone_int_zero Tryz.laysNm215 a c w
def Tryz.laysNm237_ren : Go.Shelf.Ren := ⟨fun | 37 => 145 | n => n, fun | 3 => 3 | 4 => 4 | n => n, fun | n => n⟩
theorem Tryz.laysNm237 : Go.Proofs.Lays2.n37 Tryz.prog Tryz.laysNm237_ren := {
  mixed := by kernel_rfl
  f37 := Tryz.func145.trans (congrArg some (by kernel_rfl))
  t3 := Tryz.underlying3
  a3 := Tryz.isAgg3
  z3 := Tryz.sizeOf3
  v3 := Tryz.zeroValue3
  t4 := Tryz.underlying4
  a4 := Tryz.isAgg4
  z4 := Tryz.sizeOf4
  v4 := Tryz.zeroValue4 }
open Go.RowKit Go.Lib in
theorem Tryz.cmp_isNaN_int2 (x : Int) (w : World) :
    Calls Tryz.prog 145 #[.int .i64 x] w fun e w' => e = .returned (.bool false) ∧ w' = w := Any.cmp_isNaN_int2 Tryz.laysNm237 x w
open Go.RowKit Go.Lib Go.Sort in
theorem Tryz.slices_Reverse_int_cells (b off n c : Nat) (zs : List Int) (w : World) (hz : n ≤ zs.length) (hbig : n ≤ 9223372036854775807) (hc : ∀ j, j < zs.length → w.cell? ⟨b, off + j, none⟩ = some (.int .i64 (zs.getD j 0))) (hf : ∀ j, j < n → w.frozen? ⟨b, off + j, none⟩ = false) :
    Calls Tryz.prog 109 #[.slice (some ⟨b, off, none⟩) n c] w fun e w' => e = .returned (.tuple #[]) ∧ ∃ q, w' = (w.drewN q).setCells b off ((zs.take n).reverse.map (Value.int .i64)) := Any.slices_Reverse_int_cells Tryz.lays112 b off n c zs w hz hbig hc hf
open Go.RowKit Go.Lib in
theorem Tryz.slices_Equal_int_lens (a1 a2 : Option Addr) (n c m d : Nat) (w : World) (hnm : n ≠ m) :
    Calls Tryz.prog 88 #[.slice a1 n c, .slice a2 m d] w fun e w' => e = .returned (.bool false) ∧ w' = w := Any.slices_Equal_int_lens Tryz.lays111 a1 a2 n c m d w hnm
def Tryz.laysSlE041_f90_ren : Go.Shelf.Ren := ⟨fun | 41 => 90 | n => n, fun | 22 => 24 | 23 => 3 | 4 => 4 | n => n, fun | n => n⟩
theorem Tryz.laysSlE041_f90 : Go.Proofs.SlLaysE0.n41 Tryz.prog Tryz.laysSlE041_f90_ren := {
  mixed := by kernel_rfl
  f41 := ⟨Tryz.f90.name, by decide, Tryz.func90.trans (congrArg some (by kernel_rfl))⟩
  t4 := Tryz.underlying4
  a4 := Tryz.isAgg4
  z4 := Tryz.sizeOf4
  v4 := Tryz.zeroValue4
  t22 := Tryz.underlying24
  a22 := Tryz.isAgg24
  z22 := Tryz.sizeOf24
  v22 := Tryz.zeroValue24 }
open Go.RowKit Go.Lib in
theorem Tryz.slices_Clone (i0 : TypeInfo) (z : Value) (size bytes : Nat) (hi : Tryz.prog.info? 3 = some i0) (hz0 : i0.zero = some z) (hz1 : i0.size = size) (hz2 : i0.bytes = bytes) (hzs : z.cells.size = size) (hsz : 0 < size) (z23 : ∀ w, (Go.sizeOf 3).run Tryz.prog w = .ok size w) (b off n c : Nat) (news : List Value) (w : World) (hl : news.length = n * size) (hn : n ≤ maxLen) (hbig : n * bytes ≤ 140737488355328) (hc : ∀ j u, news[j]? = some u → w.cell? ⟨b, off + j, none⟩ = some u) (h1 : ∀ u ∈ news, u.oneCell' = true) :
    Calls Tryz.prog 90 #[.slice (some ⟨b, off, none⟩) n c] w fun e w' => ∃ v', e = .returned v' ∧ w'.ownsRow w.heap.size 3 size v' n news ∧ v' ≠ .slice none 0 0 ∧ Below w.heap.size w w' := AnyE.slices_Clone Tryz.laysSlE041_f90 i0 z size bytes hi hz0 hz1 hz2 hzs hsz z23 b off n c news w hl hn hbig hc h1
open Go.RowKit Go.Lib in
theorem Tryz.slices_Clone_nil (n c : Nat) (w : World) :
    Calls Tryz.prog 90 #[.slice none n c] w fun e w' => e = .returned (.slice none 0 0) ∧ w' = w := AnyE.slices_Clone_nil Tryz.laysSlE041_f90 n c w
end Go.Proofs
end
section
namespace Go.Proofs.YtienaogmljlmlaaGreatDoor
open Go.RowKit WordM

theorem sizeI : (Tryz.prog.info? 3).map (·.size) = some 1 := by kernel_rfl
theorem mulU (L m T : Nat) (hT : L * m = T) (hT2 : T ≤ 4611686018427387904) (hL : L < 18446744073709551616) (hm : m < 18446744073709551616) (w : World) :
    Calls Tryz.prog 150 #[.int .u64 (L : Int), .int .u64 (m : Int)] w fun e w' => e = .returned (.tuple #[.int .u64 0, .int .u64 (T : Int)]) ∧ w = w' := by
  refine (Tryz.bits_Mul L m hL hm w).mono fun e w' ⟨h1, h2⟩ => ⟨?_, h2.symm⟩
  rw [h1, hT, Nat.div_eq_of_lt (by omega), Nat.mod_eq_of_lt (by omega)]
  rfl
theorem cI_one {l : List Int} {v : Value} (h : v ∈ cI l) : v.oneCell' = true := by
  unfold cI at h
  obtain ⟨x, _, rfl⟩ := List.mem_map.1 h
  rfl
/-- the first k of them, the rest 0 -/
def fillW (X : List Int) (k : Nat) : List Int := X.take k ++ List.replicate (X.length - k) 0
theorem fillW_length {X : List Int} {k : Nat} (hk : k ≤ X.length) : (fillW X k).length = X.length := by simp [fillW]; omega
theorem fillW_zero (X : List Int) : fillW X 0 = List.replicate X.length 0 := by simp [fillW]
theorem fillW_all (X : List Int) : fillW X X.length = X := by simp [fillW]
theorem splice_fill {X cs : List Int} {k : Nat} (hk : k + cs.length ≤ X.length) (hcs : ∀ j, j < cs.length → cs[j]? = X[k + j]?) : splice (cI (fillW X k)) k (cI cs) = cI (fillW X (k + cs.length)) := by
  have e : cs = (X.drop k).take cs.length := by
    apply List.ext_getElem?
    intro j
    rw [List.getElem?_take, List.getElem?_drop]
    by_cases hj : j < cs.length
    · rw [if_pos hj, hcs j hj]
    · rw [if_neg hj, List.getElem?_eq_none (by omega)]
  have e2 : X.take (k + cs.length) = X.take k ++ cs := by
    rw [List.take_add]
    congr 1
    exact e.symm
  unfold splice fillW
  rw [e2]
  simp only [cI_app]
  have hl : (cI (X.take k)).length = k := by rw [cI_length, List.length_take]; omega
  rw [List.take_append_of_le_length (by rw [hl]; exact Nat.le_refl _), List.take_of_length_le (by rw [hl]; exact Nat.le_refl _), cI_length, List.drop_append, hl]
  have h0 : (cI (X.take k)).drop (k + cs.length) = [] := List.drop_eq_nil_of_le (by omega)
  rw [h0, List.nil_append, List.append_assoc]
  congr 2
  unfold cI
  rw [← List.map_drop, List.drop_replicate]
  congr 2
  omega
theorem times_shift {l : List Int} {m k j : Nat} (hd : l.length ∣ k) (hj : k + j < m * l.length) : (timesW l m)[j]? = (timesW l m)[k + j]? := by
  rw [timesW_get l m _ hj, timesW_get l m _ (by omega)]
  congr 1
  obtain ⟨q, rfl⟩ := hd
  unfold F
  rw [Nat.mul_add_mod]
theorem times_front {l : List Int} {m j : Nat} (hj : j < l.length) (hm : 1 ≤ m) : l[j]? = (timesW l m)[0 + j]? := by
  rw [Nat.zero_add, timesW_get l m _ (by have := Nat.mul_le_mul_right l.length hm; omega), F_get hj]
/-- block g is a whole list of ints -/
def BlockI (w : World) (g : Nat) (l : List Int) : Prop := w.heap[g]? = some (.cells (cI l).toArray 3 (0, 0))
theorem BlockI.eq {w : World} {g : Nat} {l : List Int} (h : BlockI w g l) : w.heap[g]? = some (.cells (cI l).toArray 3 (0, 0)) := h
theorem BlockI.cell {w : World} {g : Nat} {l : List Int} (h : BlockI w g l) {j : Nat} {x : Int} (hx : l[j]? = some x) : w.cell? ⟨g, j, none⟩ = some (.int .i64 x) := by
  rw [cell_of_row w g j _ _ _ h, List.getElem?_toArray]
  exact cI_get hx
def RepRel (w : World) (l X : List Int) (g : Nat) (v : Value) (wr : World) : Prop :=
  ∃ k : Nat, k ≤ X.length ∧ (0 < X.length → 0 < k) ∧ l.length ∣ k ∧ v = .int .i64 (k : Int) ∧ BlockI wr g (fillW X k) ∧ Below w.heap.size w wr

set_option maxRecDepth 100000 in
set_option maxHeartbeats 4000000 in
theorem repeatI (p : Option Addr) (n c m : Nat) (l : List Int) (w : World) (hn : n = l.length) (h : IntV w.heap.size w p c l) (hm : m ≤ 9223372036854775807) (hT : n * m ≤ 1000000) :
    Calls Tryz.prog 108 #[.slice p n c, .int .i64 (m : Int)] w (IntPost w (timesW l m)) := by
  have hle := h.le
  have hcap := h.cap
  unfold maxLen at hcap
  have hnc : n ≤ c := by omega
  obtain ⟨T, hTe⟩ : ∃ T, n * m = T := ⟨_, rfl⟩
  have hTl : T ≤ 1000000 := by omega
  have hX : (timesW l m).length = T := by rw [timesW_length, ← hn, Nat.mul_comm]; exact hTe
  have hmul := mulU n m T hTe (by omega) (by omega) (by omega) w
  have H := Lib.hid (And.intro h (And.intro hn (And.intro hTe hX)))
  have hmk := makeI T (by omega) w
  have HM := Lib.hid hmul
  have hd1 : decide ((m : Int) < 0) = false := by rw [decide_eq_false_iff_not]; omega
  have hd2 : decide ((9223372036854775807 : Int) < (T : Int)) = false := by rw [decide_eq_false_iff_not]; omega
  clear h hn hT hTe hX hmul hle
  go_enter Tryz.func108, Tryz.ntmps108
  go_wp2_with fail
  refine HM.out.mono ?_
  rintro e w' ⟨rfl, rfl⟩
  have hB1 : Below w.heap.size w (w.alloc (.cells (madeCells #[.int .i64 0] T) 3)) := (Below.refl _ _).alloc (Nat.le_refl _) _
  have HB1 := Lib.hid hB1
  have hh : BlockI (w.alloc (.cells (madeCells #[.int .i64 0] T) 3)) w.heap.size (fillW (timesW l m) 0) := by
    unfold BlockI
    rw [heap_newN, fillW_zero, H.out.2.2.2]
    congr 2
    rw [← Array.toList_inj, madeI_list, List.toList_toArray]
    unfold cI
    rw [List.map_replicate]
  have HHH := Lib.hid hh
  obtain ⟨k0, hk0⟩ : ∃ k0, k0 = Nat.min n T := ⟨_, rfl⟩
  have hk0c : k0 = 0 ∧ T = 0 ∨ k0 = n ∧ 1 ≤ m := by
    rcases Nat.eq_zero_or_pos m with h0 | h0
    · left
      have : T = 0 := by rw [← H.out.2.2.1, h0, Nat.mul_zero]
      exact ⟨by rw [hk0, this]; exact Nat.min_eq_right (Nat.zero_le _), this⟩
    · right
      refine ⟨?_, h0⟩
      have : n * 1 ≤ n * m := Nat.mul_le_mul_left _ h0
      rw [hk0]
      exact Nat.min_eq_left (by have := H.out.2.2.1; omega)
  have HK := Lib.hid (And.intro hk0 hk0c)
  have hk0n : k0 ≤ n := by rw [hk0]; exact Nat.min_le_left _ _
  have hk0T : k0 ≤ T := by rw [hk0]; exact Nat.min_le_right _ _
  clear hB1 hh hk0 hk0c
  have hh1 : ¬ ((0 : Int) < 0) := by omega
  go_wp2_with (with_reducible refine wpList_copy_splice rfl (.tmp 31) (.tmp 32) 24 24 rfl 3 Tryz.underlying24 sizeI (some ⟨w.heap.size, 0, none⟩) p T T n c rfl rfl w.heap.size 0 (cI (fillW (timesW l m) 0)) 3 (BlockI.eq HHH.out) (cI (l.take k0)) ?k1 ?k2 ?k3 ?k4 w.heap.size w HB1.out (Nat.le_refl _) ?_)
  case k1 => rw [cI_length, List.length_take, ← H.out.2.1, Nat.min_eq_left hk0n]; exact HK.out.1
  case k2 =>
    intro hpos
    rw [cI_length, List.length_take] at hpos
    obtain ⟨b, off, rfl, hb, hc⟩ := H.out.1.cell (by rintro rfl; simp at hpos)
    refine ⟨_, rfl, fun j v hv => ?_⟩
    rw [add_off]
    unfold cI at hv
    rw [List.getElem?_map] at hv
    obtain ⟨x, hx, rfl⟩ := Option.map_eq_some_iff.1 hv
    rw [List.getElem?_take] at hx
    split at hx
    · exact (HB1.out.cell (p := ⟨b, off + j, none⟩) hb).trans (hc j x hx)
    · cases hx
  case k3 => rw [cI_length, cI_length, List.length_take, fillW_length (Nat.zero_le _), H.out.2.2.2]; have := H.out.2.1; omega
  case k4 =>
    intro v hv
    unfold cI at hv
    obtain ⟨x, _, rfl⟩ := List.mem_map.1 hv
    rfl
  intro w1 hw1 hb1
  have hlk : (l.take k0).length = k0 := by rw [List.length_take, ← H.out.2.1]; omega
  have hlk2 : (cI (l.take k0)).length = k0 := by rw [cI_length, hlk]
  have hw2 : BlockI w1 w.heap.size (fillW (timesW l m) k0) := by
    have h := hw1.out
    rw [splice_fill (X := timesW l m) (k := 0) (cs := l.take k0) (by rw [hlk, H.out.2.2.2]; omega) (fun j hj => ?_), hlk, Nat.zero_add] at h
    · exact h
    · rw [hlk] at hj
      rw [List.getElem?_take, if_pos hj]
      rcases HK.out.2 with ⟨h1, _⟩ | ⟨h1, h2⟩
      · omega
      · exact times_front (by have := H.out.2.1; omega) h2
  have HW := Lib.hid (And.intro hw2 hb1)
  clear hw1 hb1 hlk hw2 hmk HB1 HHH
  rw [hlk2]
  clear hlk2
  go_wp2_with fail
  go_loopw [8] (fun v wr => RepRel w l (timesW l m) w.heap.size v wr) (fun v _ => T - (intOf v).toNat)
  case atStart =>
    refine ⟨k0, by rw [H.out.2.2.2]; exact hk0T, ?_, ?_, rfl, HW.out.1, HW.out.2⟩
    · intro hpos
      rw [H.out.2.2.2] at hpos
      rcases HK.out.2 with ⟨h1, h2⟩ | ⟨h1, h2⟩
      · omega
      · rcases Nat.eq_zero_or_pos n with h3 | h3
        · have := H.out.2.2.1; rw [h3, Nat.zero_mul] at this; omega
        · omega
    · rcases HK.out.2 with ⟨h1, h2⟩ | ⟨h1, h2⟩
      · rw [h1]; exact ⟨0, rfl⟩
      · rw [h1, H.out.2.1]; exact Nat.dvd_refl _
  case round =>
    obtain ⟨k, hk, hk0, hd, rfl, hbl, hb⟩ := hrel
    have hkT : k ≤ T := by rw [H.out.2.2.2] at hk; exact hk
    by_cases hlt : k < T
    · have hkp : 0 < k := hk0 (by rw [H.out.2.2.2]; omega)
      have HR := Lib.hid (And.intro hd (And.intro hbl hb))
      have hkX : ∃ kk, kk = Nat.min k (T - k) := ⟨_, rfl⟩
      obtain ⟨kk, hkk⟩ := hkX
      have hkk1 : kk ≤ k := by rw [hkk]; exact Nat.min_le_left _ _
      have hkk2 : k + kk ≤ T := by have : kk ≤ T - k := by rw [hkk]; exact Nat.min_le_right _ _
                                   omega
      have hkk3 : 0 < kk := by rw [hkk]; exact Nat.lt_min.2 ⟨hkp, by omega⟩
      have hkk4 : k + kk = T ∨ kk = k := by
        rcases Nat.le_total k (T - k) with h1 | h1
        · right; rw [hkk]; exact Nat.min_eq_left h1
        · left; have : kk = T - k := by rw [hkk]; exact Nat.min_eq_right h1
          omega
      have hcl : (cI ((timesW l m).take kk)).length = kk := by rw [cI_length, List.length_take, H.out.2.2.2]; omega
      have hcl2 : ((timesW l m).take kk).length = kk := by rw [← cI_length, hcl]
      have hspl : splice (cI (fillW (timesW l m) k)) k (cI ((timesW l m).take kk)) = cI (fillW (timesW l m) (k + kk)) := by
        have := splice_fill (X := timesW l m) (k := k) (cs := (timesW l m).take kk) (by rw [hcl2, H.out.2.2.2]; exact hkk2) (fun j hj => by
          rw [hcl2] at hj
          rw [List.getElem?_take, if_pos hj]
          exact times_shift HR.out.1 (by rw [← timesW_length, H.out.2.2.2]; omega))
        rwa [hcl2] at this
      have hsrc : ∀ j v, (cI ((timesW l m).take kk))[j]? = some v → wr.cell? ⟨w.heap.size, j, none⟩ = some v := fun j v hv => by
        unfold cI at hv
        rw [List.getElem?_map] at hv
        obtain ⟨x, hx, rfl⟩ := Option.map_eq_some_iff.1 hv
        rw [List.getElem?_take] at hx
        split at hx
        · rename_i hj
          refine HR.out.2.1.cell ?_
          unfold fillW
          rw [List.getElem?_append_left (by rw [List.length_take, H.out.2.2.2]; omega), List.getElem?_take, if_pos (by omega)]
          exact hx
        · cases hx
      have hlenf : (cI (fillW (timesW l m) k)).length = T := by rw [cI_length, fillW_length (by rw [H.out.2.2.2]; exact hkT), H.out.2.2.2]
      have HZ := Lib.hid (And.intro hcl (And.intro hspl (And.intro hsrc (And.intro hlenf hkk))))
      have hi0 : (0 : Int) ≤ (k : Int) := by omega
      have hi1 : (k : Int) ≤ (T : Int) := by omega
      have hkT2 : ¬ T = k := by omega
      have hwk : IntKind.i64.wrap ((k : Int) + (kk : Int)) = (k : Int) + (kk : Int) := by rw [IntWalk.i64_in _ (by omega)]
      clear hd hbl hb hk0 hk hcl hcl2 hspl hsrc hlenf hkk
      go_wp2_with fail
      go_region_law ((refine step_copy_splice rfl (.tmp 41) (.tmp 44) 24 24 rfl 3 Tryz.underlying24 sizeI (some ⟨w.heap.size, k, none⟩) (some ⟨w.heap.size, 0, none⟩) (T - k) (T - k) k T (by simp [Act.eval, Act.put]) (by simp [Act.eval, Act.put]) w.heap.size k (cI (fillW (timesW l m) k)) 3 (BlockI.eq HR.out.2.1) (cI ((timesW l m).take kk)) (by rw [HZ.out.1]; exact HZ.out.2.2.2.2) (fun _ => ⟨rfl, _, rfl, fun j v hv => by rw [add_off, Nat.zero_add]; exact HZ.out.2.2.1 j v hv⟩) (by rw [HZ.out.1, HZ.out.2.2.2.1]; exact hkk2) (fun v hv => cI_one hv) w.heap.size w (by repeat' (first | exact HR.out.2.2 | refine Below.drew ?_ | refine below_drewN ?_ _)) (Nat.le_refl _) ?_; intro w2 hw2 hb2))
      all_goals
        have hbk : BlockI w2 w.heap.size (fillW (timesW l m) (k + kk)) := by
          have h := hw2.out
          rw [HZ.out.2.1] at h
          exact h
        have HF := Lib.hid (And.intro hbk hb2)
        clear hw2 hb2 hbk
        rw [HZ.out.1]
        simp only [List.getElem_toArray, List.getElem_cons_succ, List.getElem_cons_zero, hwk]
        go_frame
        go_wp2_with fail
        go_roundw
        case rel =>
          refine ⟨k + kk, by rw [H.out.2.2.2]; exact hkk2, fun _ => by omega, ?_, by go_num, HF.out.1, HF.out.2⟩
          rcases hkk4 with h1 | h1
          · rw [h1, ← H.out.2.2.2, timesW_length]
            exact Nat.dvd_mul_left _ _
          · rw [h1]
            exact Nat.dvd_add HR.out.1 HR.out.1
        case measure => simp [intOf]; omega
    · obtain rfl : k = T := by omega
      have he : fillW (timesW l m) k = timesW l m := by rw [← H.out.2.2.2, fillW_all]
      rw [he] at hbl
      have hO := IntO.of_block (base := w.heap.size) (Nat.le_refl _) (by rw [H.out.2.2.2]; unfold maxLen; omega) hbl
      rw [H.out.2.2.2] at hO
      have HF := Lib.hid (And.intro hO hb)
      clear hd hbl hb hk0 hk he hO
      go_wp2_with fail
      go_ret
      exact ⟨_, _, by rw [H.out.2.2.2]; rfl, HF.out.1, HF.out.2⟩
end Go.Proofs.YtienaogmljlmlaaGreatDoor
end
section
namespace Go.Proofs.YtienaogmljlmlaaGreatDoor
open Go.RowKit Go.Extern.Stop Go.Stop Go.Extern WordM NatM

set_option maxRecDepth 100000 in
set_option maxHeartbeats 4000000 in
theorem times_ok (p : Option Addr) (n c m : Nat) (l : List Int) (w : World) (hn : n = l.length) (h : IntV w.heap.size w p c l) (hm : m ≤ 9223372036854775807) (hT : n = 0 ∨ m ≤ 4096 / n) :
    Calls Tryz.prog 44 #[.slice p n c, .int .i64 (m : Int)] w (IntOk w (timesW l m)) := by
  have hle := h.le
  have hcap := h.cap
  unfold maxLen at hcap
  have hnm : n * m ≤ 1000000 := by
    rcases hT with h0 | h0
    · rw [h0, Nat.zero_mul]; omega
    · have := Nat.mul_le_mul_left n h0
      have := Nat.mul_div_le 4096 n
      omega
  have hrep := repeatI p n c m l w hn h hm hnm
  have HR := Lib.hid hrep
  clear hrep h hn hle hnm
  rcases Nat.eq_zero_or_pos n with h0 | h0
  · subst h0
    have hd0 : decide ((0 : Int) < 0) = false := by decide
    go_enter Tryz.func44, Tryz.ntmps44
    go_wp2_with fail
    refine HR.out.mono ?_
    rintro e w1 ⟨p1, c1, rfl, ho1, hb1⟩
    have HO := Lib.hid (And.intro ho1 hb1)
    clear ho1 hb1
    go_wp2_with fail
    go_ret2
    exact ⟨p1, c1, rfl, HO.out.1, HO.out.2⟩
  · have hmq : m ≤ 4096 / n := by omega
    obtain ⟨q, hq⟩ : ∃ q, 4096 / n = q := ⟨_, rfl⟩
    have hq4 : q ≤ 4096 := by rw [← hq]; exact Nat.div_le_self _ _
    have hqi : (4096 : Int) / (n : Int) = (q : Int) := by rw [← hq]; rfl
    have hqi2 : (4096 : Int).tdiv (n : Int) = (q : Int) := by rw [Int.tdiv_eq_ediv_of_nonneg (by omega), hqi]
    have hmq2 : ¬ ((q : Int) < (m : Int)) := by omega
    have hmq3 : decide ((q : Int) < (m : Int)) = false := by rw [decide_eq_false_iff_not]; omega
    have hmq4 : decide (q < m) = false := by rw [decide_eq_false_iff_not]; omega
    have hn0 : ¬ ((n : Int) == 0) = true := by rw [beq_iff_eq]; omega
    clear hq hT hmq
    go_enter Tryz.func44, Tryz.ntmps44
    go_wp2_with fail
    refine HR.out.mono ?_
    rintro e w1 ⟨p1, c1, rfl, ho1, hb1⟩
    have HO := Lib.hid (And.intro ho1 hb1)
    clear ho1 hb1
    go_wp2_with fail
    go_ret2
    exact ⟨p1, c1, rfl, HO.out.1, HO.out.2⟩
set_option maxRecDepth 100000 in
theorem times_neg (p : Option Addr) (n c : Nat) (z : Int) (w : World) (A : Nat → Addr) (hr : Roots w A) (hz : z < 0) :
    Calls Tryz.prog 44 #[.slice p n c, .int .i64 z] w (Err2 w A wordOp 0 3 (.slice none 0 0)) := by
  have HR := Lib.hid hr
  clear hr
  go_enter Tryz.func44, Tryz.ntmps44
  go_wp2_with fail
  refine (new_at wordOp 0 3 _ A HR.out (by omega)).mono ?_
  rintro e w1 ⟨b, rfl, hl1, hb1⟩
  have H := Lib.hid (And.intro hl1 hb1)
  clear hl1 hb1
  go_wp2_with fail
  go_ret2
  exact ⟨_, rfl, H.out.1, H.out.2⟩
set_option maxRecDepth 100000 in
theorem times_big (p : Option Addr) (n c m : Nat) (w : World) (A : Nat → Addr) (hr : Roots w A) (hn : n ≤ 9223372036854775807) (h0 : 0 < n) (hm : 4096 / n < m) :
    Calls Tryz.prog 44 #[.slice p n c, .int .i64 (m : Int)] w (Err2 w A wordOp 0 4 (.slice none 0 0)) := by
  have HR := Lib.hid hr
  obtain ⟨q, hq⟩ : ∃ q, 4096 / n = q := ⟨_, rfl⟩
  have hq4 : q ≤ 4096 := by rw [← hq]; exact Nat.div_le_self _ _
  have hqi : (4096 : Int) / (n : Int) = (q : Int) := by rw [← hq]; rfl
  have hqi2 : (4096 : Int).tdiv (n : Int) = (q : Int) := by rw [Int.tdiv_eq_ediv_of_nonneg (by omega), hqi]
  have hmq2 : ((q : Int) < (m : Int)) := by omega
  have hmq4 : decide (q < m) = true := by rw [decide_eq_true_iff]; omega
  clear hr hq hm
  go_enter Tryz.func44, Tryz.ntmps44
  go_wp2_with fail
  refine (new_at wordOp 0 4 _ A HR.out (by omega)).mono ?_
  rintro e w1 ⟨b, rfl, hl1, hb1⟩
  have H := Lib.hid (And.intro hl1 hb1)
  clear hl1 hb1
  go_wp2_with fail
  go_ret2
  exact ⟨_, rfl, H.out.1, H.out.2⟩
end Go.Proofs.YtienaogmljlmlaaGreatDoor
end
section
namespace Go.Proofs.YtienaogmljlmlaaGreatDoor
open Go.RowKit Go.Extern.Stop Go.Stop Go.Extern WordM NatM

/-- a number and no error, both new -/
def NumOk (w : World) (n : Nat) (e : Ending) (w' : World) : Prop :=
  ∃ p c, e = .returned (.tuple #[.slice p (D32 n).length c, .nilIface]) ∧ NatO w.heap.size w' p c (D32 n) ∧ Below w.heap.size w w'
theorem valW_len {k : Nat} {l : List Int} (h4 : k ≤ 4) (h : okW k l) : (D32 (valW k l)).length ≤ l.length := by
  apply D32_len
  exact Nat.lt_of_lt_of_le (valW_lt h) (Nat.pow_le_pow_left (by omega) _)
theorem valW_take {k : Nat} {l : List Int} {j : Nat} {x : Int} (h : l[j]? = some x) : valW k (l.take (j + 1)) = valW k (l.take j) * k + x.toNat := by
  rw [List.take_add_one, h]
  exact valW_snoc k _ x
def IndexRel (w : World) (k : Nat) (l : List Int) (v8 v26 : Value) (wr : World) : Prop :=
  ∃ (j : Nat) (p : Option Addr) (c : Nat), j ≤ l.length ∧ v26 = .int .i64 (j : Int) ∧ v8 = .slice p (D32 (valW k (l.take j))).length c ∧ NatO w.heap.size wr p c (D32 (valW k (l.take j))) ∧ Below w.heap.size w wr
set_option maxRecDepth 100000 in
set_option maxHeartbeats 4000000 in
theorem index_ok (k : Nat) (p : Option Addr) (n c : Nat) (l : List Int) (w : World) (hn : n = l.length) (h : IntV w.heap.size w p c l) (hc : chkW k l = none) (h256 : n ≤ 256) :
    Calls Tryz.prog 36 #[.int .i64 (k : Int), .slice p n c] w (NumOk w (valW k l)) := by
  have hck := check_ok (k : Int) p n c l w hn h hc
  obtain ⟨k', hk', h1, h4, hl, ho⟩ := chkW_none hc
  obtain rfl : k = k' := by omega
  have hle := h.le
  have hcap := h.cap
  unfold maxLen at hcap
  have hnc : n ≤ c := by omega
  have H := Lib.hid (And.intro h (And.intro ho hn))
  have HCK := Lib.hid hck
  clear h hc hl ho hck hn hle hk'
  go_enter Tryz.func36, Tryz.ntmps36
  go_wp2_with fail
  refine HCK.out.mono ?_
  rintro e w1 ⟨rfl, hb1⟩
  have HB1 := Lib.hid hb1
  clear hb1
  go_wp2_with fail
  refine (from_any k w1 (by omega)).mono ?_
  rintro e w2 ⟨p7, c7, rfl, ho7, hb2⟩
  have hkl : (D32 k).length ≤ 100000 := by
    have := D32_len (n := k) (k := 1) (by omega)
    omega
  have HB2 := Lib.hid (And.intro (HB1.out.trans (hb2.mono HB1.out.size)) (And.intro ho7.toV hkl))
  clear hb2 ho7 hkl
  go_wp2_with fail
  go_loopw [8, 26] (fun v8 v26 wr => IndexRel w2 k l v8 v26 wr) (fun _ v _ => n - (intOf v).toNat)
  case atStart => exact ⟨0, none, 0, Nat.zero_le _, rfl, by rw [List.take_zero, show valW k [] = 0 from rfl, D32_nil.2 rfl]; rfl, by rw [List.take_zero, show valW k [] = 0 from rfl, D32_nil.2 rfl]; exact NatO.nothing _ _, Below.refl _ _⟩
  case round =>
    obtain ⟨j, q, cq, hj, rfl, rfl, hoq, hb⟩ := hrel
    have hjn : j ≤ n := by have := H.out.2.2; omega
    by_cases hlt : j < n
    · have hnl := H.out.2.2
      obtain ⟨b, off, rfl, hbb, hcc⟩ := ((H.out.1.next HB2.out.1).next hb).cell (by rintro rfl; simp at hnl; omega)
      obtain ⟨x, hx⟩ := getI (l := l) (k := j) (by omega)
      have hcx := hcc j x hx
      have hxo := H.out.2.1 x (List.mem_of_getElem? hx)
      obtain ⟨y, rfl⟩ : ∃ y : Nat, x = (y : Int) := ⟨x.toNat, by omega⟩
      have hst := valW_take (k := k) hx
      rw [Int.toNat_natCast] at hst
      have hvl := valW_len h4 (okW_take H.out.2.1 j)
      have hvl2 := valW_len h4 (okW_take H.out.2.1 (j + 1))
      rw [List.length_take] at hvl hvl2
      obtain ⟨v, hv⟩ : ∃ v, valW k (l.take j) = v := ⟨_, rfl⟩
      rw [hv] at hoq hst hvl ⊢
      have hmul := mul_any q p7 cq c7 (D32 v) (D32 k) wr hoq.toV (HB2.out.2.1.next hb) (by omega) HB2.out.2.2
      rw [V32_D32, V32_D32] at hmul
      have hy4 : y ≤ 4 := by omega
      have hvm : (D32 (v * k)).length ≤ 100000 := by
        have h1 : v * k ≤ v * k + y := Nat.le_add_right _ _
        rw [hst] at hvl2
        rcases Nat.lt_or_ge 100000 (D32 (v * k)).length with h2 | h2
        · have := cmp_len (m := v * k + y) (n := v * k) (by omega)
          omega
        · exact h2
      have HS := Lib.hid (And.intro hst (And.intro hb (And.intro hmul hvm)))
      clear hcc hx hxo hst hvl hvl2 hv hoq hb hmul hvm hnl
      go_wp2_with fail
      refine HS.out.2.2.1.mono ?_
      rintro e w3 ⟨p3, c3, rfl, ho3, hb3⟩
      have HM := Lib.hid (And.intro ho3 hb3)
      clear ho3 hb3
      go_wp2_with fail
      refine (from_any y w3 (by omega)).mono ?_
      rintro e w4 ⟨p4, c4, rfl, ho4, hb4⟩
      have hyl : (D32 y).length ≤ 100000 := by
        have := D32_len (n := y) (k := 1) (by omega)
        omega
      have hadd := add_any p3 p4 c3 c4 (D32 (v * k)) (D32 y) w4 (HM.out.1.toV.next hb4) ho4.toV HS.out.2.2.2 hyl
      rw [V32_D32, V32_D32] at hadd
      have HA := Lib.hid (And.intro hadd (HM.out.2.trans (hb4.mono HM.out.2.size)))
      clear ho4 hb4 hyl hadd
      go_wp2_with fail
      refine HA.out.1.mono ?_
      rintro e w5 ⟨p5, c5, rfl, ho5, hb5⟩
      have hbb5 : Below w2.heap.size w2 w5 := HS.out.2.1.trans ((HA.out.2.trans (hb5.mono HA.out.2.size)).mono HS.out.2.1.size)
      have ho5' : NatO w2.heap.size w5 p5 c5 (D32 (v * k + y)) := ho5.base (Nat.le_trans HS.out.2.1.size HA.out.2.size)
      have HF := Lib.hid (And.intro ho5' hbb5)
      clear ho5 ho5' hb5 hbb5
      go_wp2_with fail
      go_roundw
      case rel => exact ⟨j + 1, p5, c5, by have := H.out.2.2; omega, by go_num, by rw [HS.out.1], by rw [HS.out.1]; exact HF.out.1, HF.out.2⟩
      case measure => simp [intOf]; omega
    · obtain rfl : j = n := by omega
      have he : l.take j = l := by rw [H.out.2.2, List.take_length]
      rw [he] at hoq ⊢
      have HF := Lib.hid (And.intro (hoq.base HB2.out.1.size) (HB2.out.1.trans (hb.mono HB2.out.1.size)))
      clear hoq hb he
      go_wp2_with fail
      go_ret2
      exact ⟨q, cq, rfl, HF.out.1, HF.out.2⟩
set_option maxRecDepth 100000 in
theorem index_bad (k : Int) (p : Option Addr) (n c : Nat) (l : List Int) (w : World) (A : Nat → Addr) (hr : Roots w A) (hn : n = l.length) (h : IntV w.heap.size w p c l) (i m : Nat) (hc : chkW k l = some (i, m)) :
    Calls Tryz.prog 36 #[.int .i64 k, .slice p n c] w (Err2 w A wordOp i m (.slice none 0 0)) := by
  have hck := check_bad k p n c l w A hr hn h i m hc
  have HCK := Lib.hid hck
  clear h hc hck hr hn
  go_enter Tryz.func36, Tryz.ntmps36
  go_wp2_with fail
  refine HCK.out.mono ?_
  rintro e w1 ⟨b, rfl, hl1, hb1⟩
  have H := Lib.hid (And.intro hl1 hb1)
  clear hl1 hb1
  go_wp2_with fail
  go_ret2
  exact ⟨_, rfl, H.out.1, H.out.2⟩
set_option maxRecDepth 100000 in
theorem index_big (k : Int) (p : Option Addr) (n c : Nat) (l : List Int) (w : World) (A : Nat → Addr) (hr : Roots w A) (hn : n = l.length) (h : IntV w.heap.size w p c l) (hc : chkW k l = none) (h256 : 256 < n) (hn2 : n ≤ 9223372036854775807) :
    Calls Tryz.prog 36 #[.int .i64 k, .slice p n c] w (Err2 w A wordOp 0 4 (.slice none 0 0)) := by
  have hck := check_ok k p n c l w hn h hc
  have HCK := Lib.hid (And.intro hck hr)
  clear h hc hck hr hn
  go_enter Tryz.func36, Tryz.ntmps36
  go_wp2_with fail
  refine HCK.out.1.mono ?_
  rintro e w1 ⟨rfl, hb1⟩
  have H1 := Lib.hid (And.intro hb1 (HCK.out.2.below hb1))
  clear hb1
  go_wp2_with fail
  refine (new_at wordOp 0 4 w1 A H1.out.2 (by omega)).mono ?_
  rintro e w2 ⟨b, rfl, hl1, hb2⟩
  have H := Lib.hid (And.intro hl1 (H1.out.1.trans (hb2.mono H1.out.1.size)))
  clear hl1 hb2
  go_wp2_with fail
  go_ret2
  exact ⟨_, rfl, H.out.1, H.out.2⟩
end Go.Proofs.YtienaogmljlmlaaGreatDoor
end
section
namespace Go.Proofs.YtienaogmljlmlaaGreatDoor
open Go.RowKit Go.Extern.Stop Go.Stop Go.Extern WordM NatM

/-- the word of n symbols with this number, and no error -/
def AtOk (w : World) (k n i : Nat) (e : Ending) (w' : World) : Prop := ∃ x : List Int, x.length = n ∧ okW k x ∧ valW k x = i ∧ IntOk w x e w'
def AtRel (w : World) (k n i : Nat) (g : Nat) (v2 v11 : Value) (wr : World) : Prop :=
  ∃ (j R : Nat) (x : List Int) (q : Option Addr) (cq : Nat) (b : List Nat), j ≤ n ∧ v11 = .int .i64 ((j : Int) - 1) ∧ v2 = .slice q b.length cq ∧ V32 b = R ∧ NatV wr.heap.size wr q cq b ∧ b.length ≤ 100000 ∧
    x.length = n - j ∧ okW k x ∧ valW k x + k ^ (n - j) * R = i ∧ IntO w.heap.size wr (some ⟨g, 0, none⟩) n (List.replicate j 0 ++ x) ∧ w.heap.size ≤ g ∧ Below w.heap.size w wr
def OverIs (w : World) (q d : Nat) (e : Ending) (w' : World) : Prop :=
  ∃ p c, e = .returned (.tuple #[.slice p (D32 q).length c, .int .u32 (d : Int), .nilIface]) ∧ NatO w.heap.size w' p c (D32 q) ∧ Below w.heap.size w w'
theorem over_is {w : World} {n d q r : Nat} {e : Ending} {w' : World} (hq : n / d = q) (hr : n % d = r) (h : OverPost w n d e w') : OverIs w q r e w' := by
  subst hq hr
  exact h
theorem set_front {x : List Int} {j : Nat} {v : Int} : (List.replicate (j + 1) (0 : Int) ++ x).set j v = List.replicate j 0 ++ v :: x := by
  rw [List.replicate_succ', List.append_assoc, List.set_append_right _ _ (by simp), List.length_replicate, Nat.sub_self]
  rfl
set_option maxRecDepth 100000 in
set_option maxHeartbeats 4000000 in
theorem at_ok (k n : Nat) (p : Option Addr) (m c : Nat) (a : List Nat) (w : World) (hm : m = a.length) (h : NatV w.heap.size w p c a) (hl : a.length ≤ 100000) (h1 : 1 ≤ k) (h4 : k ≤ 4) (h256 : n ≤ 256) (hlt : V32 a < k ^ n) :
    Calls Tryz.prog 39 #[.int .i64 (k : Int), .int .i64 (n : Int), .slice p m c] w (AtOk w k n (V32 a)) := by
  subst hm
  have hpow := pow_any k n (by omega) (by omega) w
  have hpl : (D32 (k ^ n)).length ≤ 100000 := by
    have h2 : k ^ n ≤ 4294967296 ^ n := Nat.pow_le_pow_left (by omega) n
    have h3 : 4294967296 ^ n < 4294967296 ^ (n + 1) := Nat.pow_lt_pow_right (by omega) (by omega)
    have := D32_len (n := k ^ n) (k := n + 1) (by omega)
    omega
  have hck := cmp_lt hlt
  have H := Lib.hid (And.intro h (And.intro hl (And.intro hlt (And.intro hpl (And.intro hck hpow)))))
  clear h hl hlt hpow hpl hck
  have hdn : decide ((n : Int) < 0) = false := by rw [decide_eq_false_iff_not]; omega
  go_enter Tryz.func39, Tryz.ntmps39
  go_wp2_with fail
  refine (alpha_yes _ _ (by omega) (by omega)).mono ?_
  rintro e w' ⟨rfl, rfl⟩
  go_wp2_with fail
  refine H.out.2.2.2.2.2.mono ?_
  rintro e w1 ⟨p1, c1, rfl, ho1, hb1⟩
  have hcmp := cmp_any p p1 c c1 a (D32 (k ^ n)) w1 (H.out.1.next hb1) ho1.toV
  have hcv : cmpV a (D32 (k ^ n)) = .int .i64 (-1) := by unfold cmpV; rw [V32_D32, H.out.2.2.2.2.1]
  rw [hcv] at hcmp
  have HB1 := Lib.hid (And.intro hb1 hcmp)
  clear ho1 hb1 hcmp hcv
  go_wp2_with fail
  refine HB1.out.2.mono ?_
  rintro e w2 ⟨rfl, hb2⟩
  have hmk := makeI n (by omega) w2
  have hb02 : Below w.heap.size w w2 := HB1.out.1.trans (hb2.mono HB1.out.1.size)
  have HB2 := Lib.hid hb02
  clear hb2 hb02
  go_wp2_with fail
  clear hmk
  have ho0 := IntO.made w2 n (by omega)
  have hbm : Below w.heap.size w (w2.alloc (.cells (madeCells #[.int .i64 0] n) 3)) := HB2.out.alloc HB2.out.size _
  obtain ⟨g, hg⟩ : ∃ g, g = w2.heap.size := ⟨_, rfl⟩
  rw [← hg] at ho0 ⊢
  have HM := Lib.hid (And.intro (ho0.base (by rw [hg]; exact HB2.out.size : w.heap.size ≤ g)) (And.intro hbm (by rw [hg]; exact HB2.out.size : w.heap.size ≤ g)))
  clear ho0 hbm hg
  go_loopw [2, 11] (fun v2 v11 wr => AtRel w k n (V32 a) g v2 v11 wr) (fun _ v _ => (intOf v + 1).toNat)
  case atStart => exact ⟨n, V32 a, [], p, c, a, Nat.le_refl _, rfl, rfl, rfl, H.out.1.next HM.out.2.1, H.out.2.1, by simp, okW_nil k, by rw [Nat.sub_self, Nat.pow_zero, Nat.one_mul]; exact Nat.zero_add _, by rw [List.append_nil]; exact HM.out.1, HM.out.2.2, HM.out.2.1⟩
  case round =>
    obtain ⟨j, R, x, q, cq, b, hj, rfl, rfl, hR, hbv, hbl, hxl, hxo, hxv, ho, hgB, hb⟩ := hrel
    rcases Nat.eq_zero_or_pos j with rfl | hj0
    · have hxa : valW k x = V32 a := at_done hxv (by rw [Nat.sub_zero]; exact H.out.2.2.1)
      rw [Nat.sub_zero] at hxl
      have ho' : IntO w.heap.size wr (some ⟨g, 0, none⟩) n x := ho
      have HF := Lib.hid (And.intro hxl (And.intro hxo (And.intro hxa (And.intro ho' hb))))
      clear hR hbv hbl hxl hxo hxv ho ho' hb hxa
      go_wp2_with fail
      go_ret2
      exact ⟨x, HF.out.1, HF.out.2.1, HF.out.2.2.1, _, _, by rw [HF.out.1]; rfl, HF.out.2.2.2.1, HF.out.2.2.2.2⟩
    · obtain ⟨i, rfl⟩ : ∃ i, j = i + 1 := ⟨j - 1, by omega⟩
      have e1 : (((i + 1 : Nat) : Int) - 1) = (i : Int) := by omega
      rw [e1]
      have hov := over_any q cq b k wr hbv hbl h1 (by omega)
      rw [hR] at hov
      have hq : (D32 (R / k)).length ≤ 100000 := by
        have h2 : R / k ≤ R := Nat.div_le_self _ _
        rcases Nat.lt_or_ge 100000 (D32 (R / k)).length with h3 | h3
        · have h5 : (D32 R).length ≤ b.length := by rw [← hR]; exact D32_le hbv.ok
          have := cmp_len (m := R) (n := R / k) (by omega)
          omega
        · exact h3
      have hst := at_step (k := k) (p := n - (i + 1)) (i := R) (i0 := V32 a) hxl hxv
      obtain ⟨d, hd⟩ : ∃ d, R % k = d := ⟨_, rfl⟩
      obtain ⟨Q, hQ⟩ : ∃ Q, R / k = Q := ⟨_, rfl⟩
      have hdk : d < k := by rw [← hd]; exact Nat.mod_lt _ h1
      have hov := hov.mono fun e w' h => over_is hQ hd h
      rw [hd, hQ] at hst
      rw [hQ] at hq
      have hlen : (List.replicate (i + 1) (0 : Int) ++ x).length = n := by simp; omega
      have hown : wr.ownsRow w.heap.size 3 1 (.slice (some ⟨g, 0, none⟩) n n) n (cI (List.replicate (i + 1) 0 ++ x)) := by
        unfold IntO at ho
        rwa [hlen] at ho
      have hin : i < n := by omega
      have HS := Lib.hid (And.intro hov (And.intro hq (And.intro hst (And.intro hown (And.intro hb (And.intro hxo hxl))))))
      clear hov hq hst hown hb hxo hxl hxv ho hlen hR hbv hbl hd hQ e1
      go_wp2_with fail
      refine HS.out.1.mono ?_
      rintro e w3 ⟨p3, c3, rfl, ho3, hb3⟩
      have hown3 := ownsRow_below hb3 HS.out.2.2.2.1
      obtain ⟨y, hy⟩ := getI (l := List.replicate (i + 1) (0 : Int) ++ x) (k := i) (by simp; omega)
      have hcy : w3.cell? ⟨g, i, none⟩ = some (.int .i64 y) := (hown3.cellAt i (by omega)).trans (cI_get hy)
      have hfy : w3.frozen? ⟨g, i, none⟩ = false := hown3.frozenAt i
      obtain ⟨s1, t1⟩ := hown3.stored i (.int .i64 (d : Int))
      rw [← cI_set, set_front] at s1
      have hb03 : Below w.heap.size w w3 := HS.out.2.2.2.2.1.trans (hb3.mono HS.out.2.2.2.2.1.size)
      have hb4 : Below w.heap.size w (w3.setCell ⟨g, i, none⟩ (.int .i64 (d : Int))) := hb03.setCell (p := ⟨g, i, none⟩) hgB _
      have hv3 : NatV (w3.setCell ⟨g, i, none⟩ (.int .i64 (d : Int))).heap.size (w3.setCell ⟨g, i, none⟩ (.int .i64 (d : Int))) p3 c3 (D32 Q) := by
        have hgl : g < wr.heap.size := by
          rcases own_shape HS.out.2.2.2.1 with ⟨hv, h0, _⟩ | ⟨g', cap, hv, _, hlt', _⟩
          · simp at hv
          · have e : g = g' := by simpa using (Value.slice.inj hv).1
            omega
        have ho4 : NatO wr.heap.size (w3.setCell ⟨g, i, none⟩ (.int .i64 (d : Int))) p3 c3 (D32 Q) := ⟨ownsRow_setCell_below ho3.own (a := ⟨g, i, none⟩) hgl _, ho3.ok⟩
        exact ho4.toV
      have HF := Lib.hid (And.intro s1 (And.intro hb4 hv3))
      clear hown3 hy s1 t1 hb03 hb4 hv3 ho3 hb3
      go_wp2_with fail
      go_roundw
      case rel =>
        refine ⟨i, Q, (d : Int) :: x, p3, c3, D32 Q, by omega, rfl, rfl, V32_D32 Q, HF.out.2.2, HS.out.2.1, ?_, ?_, ?_, ?_, hgB, HF.out.2.1⟩
        · rw [List.length_cons, HS.out.2.2.2.2.2.2]; omega
        · intro z hz
          rcases List.mem_cons.1 hz with rfl | hz
          · omega
          · exact HS.out.2.2.2.2.2.1 z hz
        · have := HS.out.2.2.1
          rw [show n - (i + 1) + 1 = n - i by omega] at this
          exact this
        · unfold IntO
          have hlen : (List.replicate i (0 : Int) ++ (d : Int) :: x).length = n := by simp; have := HS.out.2.2.2.2.2.2; omega
          rw [hlen]; exact HF.out.1
      case measure => simp [intOf]
end Go.Proofs.YtienaogmljlmlaaGreatDoor
end
section
namespace Go.Proofs.YtienaogmljlmlaaGreatDoor
open Go.RowKit Go.Extern.Stop Go.Stop Go.Extern WordM NatM

set_option maxRecDepth 100000 in
set_option maxHeartbeats 1000000 in
theorem at_arg (k n : Int) (p : Option Addr) (m c : Nat) (w : World) (A : Nat → Addr) (hr : Roots w A) (h : (k < 1 ∨ 4 < k) ∨ n < 0) :
    Calls Tryz.prog 39 #[.int .i64 k, .int .i64 n, .slice p m c] w (Err2 w A wordOp 0 3 (.slice none 0 0)) := by
  have HR := Lib.hid hr
  clear hr
  by_cases hk : k < 1 ∨ 4 < k
  · clear h
    go_enter Tryz.func39, Tryz.ntmps39
    go_wp2_with fail
    refine (alpha_no _ _ hk).mono ?_
    rintro e w' ⟨rfl, rfl⟩
    go_wp2_with fail
    refine (new_at wordOp 0 3 _ A HR.out (by omega)).mono ?_
    rintro e w1 ⟨b, rfl, hl1, hb1⟩
    have H := Lib.hid (And.intro hl1 hb1)
    clear hl1 hb1
    go_wp2_with fail
    go_ret2
    exact ⟨_, rfl, H.out.1, H.out.2⟩
  · have hn : n < 0 := by omega
    have hk1 : 1 ≤ k := by omega
    have hk4 : k ≤ 4 := by omega
    clear h hk
    go_enter Tryz.func39, Tryz.ntmps39
    go_wp2_with fail
    refine (alpha_yes _ _ hk1 hk4).mono ?_
    rintro e w' ⟨rfl, rfl⟩
    go_wp2_with fail
    refine (new_at wordOp 0 3 _ A HR.out (by omega)).mono ?_
    rintro e w1 ⟨b, rfl, hl1, hb1⟩
    have H := Lib.hid (And.intro hl1 hb1)
    clear hl1 hb1
    go_wp2_with fail
    go_ret2
    exact ⟨_, rfl, H.out.1, H.out.2⟩
set_option maxRecDepth 100000 in
set_option maxHeartbeats 1000000 in
theorem at_long (k n : Int) (p : Option Addr) (m c : Nat) (w : World) (A : Nat → Addr) (hr : Roots w A) (hk1 : 1 ≤ k) (hk4 : k ≤ 4) (hn : 256 < n) :
    Calls Tryz.prog 39 #[.int .i64 k, .int .i64 n, .slice p m c] w (Err2 w A wordOp 0 4 (.slice none 0 0)) := by
  have HR := Lib.hid hr
  have hn0 : ¬ n < 0 := by omega
  clear hr
  go_enter Tryz.func39, Tryz.ntmps39
  go_wp2_with fail
  refine (alpha_yes _ _ hk1 hk4).mono ?_
  rintro e w' ⟨rfl, rfl⟩
  go_wp2_with fail
  refine (new_at wordOp 0 4 _ A HR.out (by omega)).mono ?_
  rintro e w1 ⟨b, rfl, hl1, hb1⟩
  have H := Lib.hid (And.intro hl1 hb1)
  clear hl1 hb1
  go_wp2_with fail
  go_ret2
  exact ⟨_, rfl, H.out.1, H.out.2⟩
set_option maxRecDepth 100000 in
set_option maxHeartbeats 4000000 in
theorem at_over (k n : Nat) (p : Option Addr) (m c : Nat) (a : List Nat) (w : World) (A : Nat → Addr) (hr : Roots w A) (hm : m = a.length) (h : NatV w.heap.size w p c a) (h1 : 1 ≤ k) (h4 : k ≤ 4) (h256 : n ≤ 256) (hge : k ^ n ≤ V32 a) :
    Calls Tryz.prog 39 #[.int .i64 (k : Int), .int .i64 (n : Int), .slice p m c] w (Err2 w A wordOp 0 3 (.slice none 0 0)) := by
  subst hm
  have hpow := pow_any k n (by omega) (by omega) w
  have hcv : ∃ r : Int, 0 ≤ r ∧ cmpN (V32 a) (k ^ n) = r := by
    rcases Nat.lt_or_ge (k ^ n) (V32 a) with h1 | h1
    · exact ⟨1, by omega, by rw [cmp_gt h1]⟩
    · exact ⟨0, by omega, by rw [show V32 a = k ^ n by omega, cmp_eq]⟩
  obtain ⟨r, hr0, hcr⟩ := hcv
  have H := Lib.hid (And.intro h (And.intro hcr (And.intro hpow hr)))
  clear h hcr hpow hr hge
  have hdn : decide ((n : Int) < 0) = false := by rw [decide_eq_false_iff_not]; omega
  go_enter Tryz.func39, Tryz.ntmps39
  go_wp2_with fail
  refine (alpha_yes _ _ (by omega) (by omega)).mono ?_
  rintro e w' ⟨rfl, rfl⟩
  go_wp2_with fail
  refine H.out.2.2.1.mono ?_
  rintro e w1 ⟨p1, c1, rfl, ho1, hb1⟩
  have hcmp := cmp_any p p1 c c1 a (D32 (k ^ n)) w1 (H.out.1.next hb1) ho1.toV
  have hcv : cmpV a (D32 (k ^ n)) = .int .i64 r := by unfold cmpV; rw [V32_D32, H.out.2.1]
  rw [hcv] at hcmp
  have HB1 := Lib.hid (And.intro hb1 hcmp)
  clear ho1 hb1 hcmp hcv
  go_wp2_with fail
  refine HB1.out.2.mono ?_
  rintro e w2 ⟨rfl, hb2⟩
  have hb02 : Below w.heap.size w w2 := HB1.out.1.trans (hb2.mono HB1.out.1.size)
  have HB2 := Lib.hid (And.intro hb02 (H.out.2.2.2.below hb02))
  clear hb2 hb02
  go_wp2_with fail
  refine (new_at wordOp 0 3 _ A HB2.out.2 (by omega)).mono ?_
  rintro e w3 ⟨b, rfl, hl3, hb3⟩
  have HF := Lib.hid (And.intro hl3 (HB2.out.1.trans (hb3.mono HB2.out.1.size)))
  clear hl3 hb3
  go_wp2_with fail
  go_ret2
  exact ⟨_, rfl, HF.out.1, HF.out.2⟩

/-- whatever Pow tells -/
def PowSome (w : World) (e : Ending) (w' : World) : Prop := ∃ p n c v, e = .returned (.tuple #[.slice p n c, v]) ∧ Below w.heap.size w w'
theorem pow_some (k n : Int) (w : World) (A : Nat → Addr) (hr : Roots w A) (hk : 0 ≤ k) (hk2 : k < 4294967296) : Calls Tryz.prog 101 #[.int .u32 k, .int .i64 n] w (PowSome w) := by
  rcases (by omega : n < 0 ∨ 1024 < n ∨ (0 ≤ n ∧ n ≤ 1024)) with h | h | ⟨h1, h2⟩
  · refine (pow_neg k n h w A hr).mono fun e w' ⟨b, he, _, hb⟩ => ⟨_, _, _, _, he, hb⟩
  · refine (pow_big k n h w A hr).mono fun e w' ⟨b, he, _, hb⟩ => ⟨_, _, _, _, he, hb⟩
  · obtain ⟨m, rfl⟩ : ∃ m : Nat, n = (m : Int) := ⟨n.toNat, by omega⟩
    obtain ⟨q, rfl⟩ : ∃ q : Nat, k = (q : Int) := ⟨k.toNat, by omega⟩
    refine (pow_any q m (by omega) (by omega) w).mono fun e w' ⟨p, c, he, _, hb⟩ => ⟨_, _, _, _, he, hb⟩
end Go.Proofs.YtienaogmljlmlaaGreatDoor
end
section
namespace Go.Proofs.YtienaogmljlmlaaGreatDoor
open Go.RowKit Go.Extern.Stop Go.Stop Go.Extern WordM RuleM NatM
attribute [local go_sem ↓] Go.wp_at_zero Go.wp_at_succ

set_option maxRecDepth 100000 in
set_option maxHeartbeats 2000000 in
theorem step_bad (k r : Int) (p q : Option Addr) (n c m d : Nat) (t l : List Int) (w : World) (A : Nat → Addr) (hr : Roots w A) (hn : n = t.length) (hm : m = l.length) (h : IntV w.heap.size w p c t) (hl : IntV w.heap.size w q d l) (i a : Nat) (hc : chkT k r t l = some (i, a)) :
    Calls Tryz.prog 51 #[.agg #[.int .i64 k, .int .i64 r, .slice p n c], .slice q m d] w (Err2 w A ruleOp i a (.slice none 0 0)) := by
  have start : ∀ (w0 : World), w0 = w.alloc (.cells #[.int .i64 k, .int .i64 r, .slice p n c] 36) → Below w.heap.size w w0 ∧ Rul3 w0 w.heap.size (.int .i64 k) (.int .i64 r) (.slice p n c) := fun w0 hw0 =>
    ⟨by rw [hw0]; exact (Below.refl _ _).alloc (Nat.le_refl _) _, by rw [hw0]; exact Rul3.new w _ _ _⟩
  have ST := Lib.hid start
  clear start
  unfold chkT at hc
  split at hc
  · obtain ⟨rfl, rfl⟩ := Prod.mk.inj (Option.some.inj hc)
    rename_i hcr
    have H := Lib.hid (And.intro h (And.intro hn (And.intro hr hcr)))
    clear h hn hr hcr hc hm hl
    go_enter Tryz.func51, Tryz.ntmps51
    go_wp2_with fail
    obtain ⟨w0, hw0⟩ : ∃ w0, w0 = w.alloc (.cells #[.int .i64 k, .int .i64 r, .slice p n c] 36) := ⟨_, rfl⟩
    rw [← hw0]
    obtain ⟨hb0, hE0⟩ := ST.out w0 hw0
    obtain ⟨⟨hf0, hf1, hf2⟩, hc0, hc1, hc2⟩ := hE0.facts
    have HE := Lib.hid (And.intro hE0 hb0)
    clear hw0 hE0 hb0
    go_wp2_with fail
    refine (rcheck_bad k r p n c t w0 A (H.out.2.2.1.below HE.out.2) H.out.2.1 (H.out.1.next HE.out.2) _ H.out.2.2.2).mono ?_
    rintro e w1 ⟨b, rfl, hl1, hb1⟩
    have HF := Lib.hid (And.intro hl1 (HE.out.2.trans (hb1.mono HE.out.2.size)))
    clear hl1 hb1
    go_wp2_with fail
    go_ret2
    exact ⟨_, rfl, HF.out.1, HF.out.2⟩
  · rename_i hcr
    obtain ⟨K, R, rfl, rfl, ho⟩ := chkR_none hcr
    have h4 := ho.k4
    have hle := hl.le
    have hcap := hl.cap
    unfold maxLen at hcap
    have hmx : m ≤ 9223372036854775807 := by omega
    split at hc
    · obtain ⟨rfl, rfl⟩ := Prod.mk.inj (Option.some.inj hc)
      rename_i hne
      have hne' : 4096 < m := by omega
      have H := Lib.hid (And.intro h (And.intro hn (And.intro hr ho)))
      clear h hn hr hcr hc hm hl ho hne hle hcap
      go_enter Tryz.func51, Tryz.ntmps51
      go_wp2_with fail
      obtain ⟨w0, hw0⟩ : ∃ w0, w0 = w.alloc (.cells #[.int .i64 (K : Int), .int .i64 (R : Int), .slice p n c] 36) := ⟨_, rfl⟩
      rw [← hw0]
      obtain ⟨hb0, hE0⟩ := ST.out w0 hw0
      obtain ⟨⟨hf0, hf1, hf2⟩, hc0, hc1, hc2⟩ := hE0.facts
      have HE := Lib.hid (And.intro hE0 hb0)
      clear hw0 hE0 hb0
      go_wp2_with fail
      refine (rcheck_ok K R p n c t w0 H.out.2.1 (H.out.1.next HE.out.2) H.out.2.2.2).mono ?_
      rintro e w1 ⟨rfl, hb1⟩
      have H1 := Lib.hid (And.intro (HE.out.1.next hb1) (HE.out.2.trans (hb1.mono HE.out.2.size)))
      clear hb1 hf0 hf1 hf2 hc0 hc1 hc2
      obtain ⟨⟨hf0, hf1, hf2⟩, hc0, hc1, hc2⟩ := H1.out.1.facts
      go_wp2_with fail
      refine (new_at ruleOp 0 4 w1 A (H.out.2.2.1.below H1.out.2) (by omega)).mono ?_
      rintro e w2 ⟨b, rfl, hl2, hb2⟩
      have HF := Lib.hid (And.intro hl2 (H1.out.2.trans (hb2.mono H1.out.2.size)))
      clear hl2 hb2
      go_wp2_with fail
      go_ret2
      exact ⟨_, rfl, HF.out.1, HF.out.2⟩
    · rename_i hlen
      obtain ⟨j, hj, he⟩ := Option.map_eq_some_iff.1 hc
      obtain ⟨rfl, rfl⟩ := Prod.mk.inj he
      have hjl := strayN_lt hj
      have hst := strayN_bad hj
      have hjm : j < m := by omega
      have hm4 : ¬ 4096 < m := by omega
      have H := Lib.hid (And.intro h (And.intro hn (And.intro hr (And.intro ho (And.intro hst (And.intro hl hm))))))
      clear h hn hr hcr hc hm hl ho hle hcap hst hjl hj hlen he
      go_enter Tryz.func51, Tryz.ntmps51
      go_wp2_with fail
      obtain ⟨w0, hw0⟩ : ∃ w0, w0 = w.alloc (.cells #[.int .i64 (K : Int), .int .i64 (R : Int), .slice p n c] 36) := ⟨_, rfl⟩
      rw [← hw0]
      obtain ⟨hb0, hE0⟩ := ST.out w0 hw0
      obtain ⟨⟨hf0, hf1, hf2⟩, hc0, hc1, hc2⟩ := hE0.facts
      have HE := Lib.hid (And.intro hE0 hb0)
      clear hw0 hE0 hb0
      go_wp2_with fail
      refine (rcheck_ok K R p n c t w0 H.out.2.1 (H.out.1.next HE.out.2) H.out.2.2.2.1).mono ?_
      rintro e w1 ⟨rfl, hb1⟩
      have H1 := Lib.hid (And.intro (HE.out.1.next hb1) (HE.out.2.trans (hb1.mono HE.out.2.size)))
      clear hb1 hf0 hf1 hf2 hc0 hc1 hc2
      obtain ⟨⟨hf0, hf1, hf2⟩, hc0, hc1, hc2⟩ := H1.out.1.facts
      go_wp2_with fail
      refine (stray_any (K : Int) q m d l w1 H.out.2.2.2.2.2.2 (H.out.2.2.2.2.2.1.next H1.out.2)).mono ?_
      rintro e w2 ⟨rfl, rfl⟩
      rw [H.out.2.2.2.2.1]
      go_wp2_with fail
      refine (new_at ruleOp j 2 w1 A (H.out.2.2.1.below H1.out.2) (by omega)).mono ?_
      rintro e w2 ⟨b, rfl, hl2, hb2⟩
      have HF := Lib.hid (And.intro hl2 (H1.out.2.trans (hb2.mono H1.out.2.size)))
      clear hl2 hb2
      go_wp2_with fail
      go_ret2
      exact ⟨_, rfl, HF.out.1, HF.out.2⟩
/-- Step, whatever is asked that it does not refuse -/
theorem step_ok (k r : Int) (p q : Option Addr) (n c m d : Nat) (t l : List Int) (w : World) (hn : n = t.length) (hm : m = l.length) (h : IntV w.heap.size w p c t) (hl : IntV w.heap.size w q d l) (hc : chkT k r t l = none) :
    Calls Tryz.prog 51 #[.agg #[.int .i64 k, .int .i64 r, .slice p n c], .slice q m d] w (IntOk w (imgW k.toNat r.toNat t l)) := by
  obtain ⟨K, R, rfl, rfl, ho, hl4, hw⟩ := chkT_none hc
  rw [Int.toNat_natCast, Int.toNat_natCast]
  rcases Nat.lt_or_ge (2 * R) m with h1 | h1
  · exact step_long K R p q n c m d t l w hn hm h hl ho h1 (by omega) hw
  · exact step_short K R p q n c m d t l w hn hm h hl ho h1 hw

set_option maxRecDepth 100000 in
set_option maxHeartbeats 4000000 in
theorem code_ok (k r : Nat) (p : Option Addr) (n c : Nat) (t : List Int) (w : World) (hn : n = t.length) (h : IntV w.heap.size w p c t) (ho : OkR k r t) (hs : t.length ≤ 256) :
    Calls Tryz.prog 53 #[.agg #[.int .i64 (k : Int), .int .i64 (r : Int), .slice p n c]] w (NumOk w (codeR k t)) := by
  have hck : chkW k t.reverse = none := chkW_ok ho.k1 ho.k4 (by rw [List.length_reverse]; omega) ho.rev
  have hcode : codeR k t = valW k t.reverse := rfl
  have hrl : t.reverse.length ≤ 256 := by rw [List.length_reverse]; exact hs
  have hback := fun wx hx => back_any p n c t wx hn hx (by omega)
  obtain ⟨tr, htr⟩ : ∃ tr, t.reverse = tr := ⟨_, rfl⟩
  rw [htr] at hck hcode hrl
  simp only [htr] at hback
  rw [hcode]
  have H := Lib.hid (And.intro h (And.intro hn (And.intro ho (And.intro hs (And.intro hck (And.intro hrl hback))))))
  clear h hn ho hs hck hcode hrl hback htr
  go_enter Tryz.func53, Tryz.ntmps53
  go_wp2_with fail
  obtain ⟨w0, hw0⟩ : ∃ w0, w0 = w.alloc (.cells #[.int .i64 (k : Int), .int .i64 (r : Int), .slice p n c] 36) := ⟨_, rfl⟩
  have hb0 : Below w.heap.size w w0 := by rw [hw0]; exact (Below.refl _ _).alloc (Nat.le_refl _) _
  have hE0 : Rul3 w0 w.heap.size (.int .i64 (k : Int)) (.int .i64 (r : Int)) (.slice p n c) := by rw [hw0]; exact Rul3.new w _ _ _
  rw [← hw0]
  obtain ⟨⟨hf0, hf1, hf2⟩, hc0, hc1, hc2⟩ := hE0.facts
  have HE := Lib.hid (And.intro hE0 hb0)
  clear hw0 hE0 hb0
  go_wp2_with fail
  refine (small_ok k r p n c t w0 H.out.2.1 (H.out.1.next HE.out.2) H.out.2.2.1 H.out.2.2.2.1).mono ?_
  rintro e w1 ⟨rfl, hb1⟩
  have hE1 := HE.out.1.next hb1
  have hbw1 := HE.out.2.trans (hb1.mono HE.out.2.size)
  have hbk : ∀ wx : World, Below w1.heap.size w1 wx → Calls Tryz.prog 47 #[.slice p n c] wx (IntPost wx tr) := fun wx hbx =>
    H.out.2.2.2.2.2.2 wx ((H.out.1.next hbw1).next hbx)
  have hix : ∀ (wx : World) (pa : Option Addr) (ca : Nat), IntV wx.heap.size wx pa ca tr → Calls Tryz.prog 36 #[.int .i64 (k : Int), .slice pa tr.length ca] wx (NumOk wx (valW k tr)) := fun wx pa ca hx =>
    index_ok k pa _ ca tr wx rfl hx H.out.2.2.2.2.1 H.out.2.2.2.2.2.1
  have hxA : ∀ wx : World, Below w1.heap.size w1 wx → wx.cell? ⟨w.heap.size, 0, none⟩ = some (.int .i64 (k : Int)) := fun wx hbx => (hE1.next hbx).facts.2.1
  have hxB : ∀ wx : World, Below w1.heap.size w1 wx → wx.cell? ⟨w.heap.size, 2, none⟩ = some (.slice p n c) := fun wx hbx => (hE1.next hbx).facts.2.2.2
  have hd0 : Below w1.heap.size w1 w1.drew := (Below.refl _ _).drew
  have HS := Lib.hid hbw1
  clear hf0 hf1 hf2 hc0 hc1 hc2 hb1 hbw1 hE1
  go_wp2_with fail
  go_region_held3 (fun w' => w'.cell? ⟨w.heap.size, 0, none⟩ = some (.int .i64 (k : Int)) ∧ w'.cell? ⟨w.heap.size, 2, none⟩ = some (.slice p n c)) (first | exact ⟨hxA _ (by assumption), hxB _ (by assumption)⟩ | exact ⟨hxA _ (Below.refl _ _), hxB _ (Below.refl _ _)⟩ | exact ⟨hxA _ hd0, hxB _ hd0⟩ | go_keep) (first
    | (go_at_call 47; refine (hbk _ (by first | assumption | exact Below.refl _ _)).mono ?_; rintro e wa ⟨pa, ca, rfl, hoa, hba⟩; have hBa : Below w1.heap.size w1 wa := (by first | exact hba | exact hd0.trans (hba.mono hd0.size)))
    | (go_at_call 36; refine (hix _ pa ca hoa.toV).mono ?_; rintro e wb ⟨pb, cb, rfl, hob, hbb⟩; have hBb : Below w1.heap.size w1 wb := hBa.trans (hbb.mono hBa.size)))
  all_goals
    have HF := Lib.hid (And.intro (hob.base (Nat.le_trans HS.out.size hBa.size)) (HS.out.trans (hBb.mono HS.out.size)))
    clear hbk hix hxA hxB hba hbb hBa hBb hoa hob
    go_wp2_with fail
    go_ret2
    exact ⟨_, _, rfl, HF.out.1, HF.out.2⟩
set_option maxRecDepth 100000 in
set_option maxHeartbeats 2000000 in
theorem code_bad (k r : Int) (p : Option Addr) (n c : Nat) (t : List Int) (w : World) (A : Nat → Addr) (hr : Roots w A) (hn : n = t.length) (h : IntV w.heap.size w p c t) (i m : Nat) (hc : chkS k r t = some (i, m)) :
    Calls Tryz.prog 53 #[.agg #[.int .i64 k, .int .i64 r, .slice p n c]] w (Err2 w A ruleOp i m (.slice none 0 0)) := by
  have H := Lib.hid (And.intro h (And.intro hn (And.intro hr hc)))
  clear h hn hr hc
  go_enter Tryz.func53, Tryz.ntmps53
  go_wp2_with fail
  obtain ⟨w0, hw0⟩ : ∃ w0, w0 = w.alloc (.cells #[.int .i64 k, .int .i64 r, .slice p n c] 36) := ⟨_, rfl⟩
  have hb0 : Below w.heap.size w w0 := by rw [hw0]; exact (Below.refl _ _).alloc (Nat.le_refl _) _
  have hE0 : Rul3 w0 w.heap.size (.int .i64 k) (.int .i64 r) (.slice p n c) := by rw [hw0]; exact Rul3.new w _ _ _
  rw [← hw0]
  obtain ⟨⟨hf0, hf1, hf2⟩, hc0, hc1, hc2⟩ := hE0.facts
  have HE := Lib.hid hb0
  clear hw0 hE0 hb0
  go_wp2_with fail
  refine (small_bad k r p n c t w0 A (H.out.2.2.1.below HE.out) H.out.2.1 (H.out.1.next HE.out) i m H.out.2.2.2).mono ?_
  rintro e w1 ⟨b, rfl, hl1, hb1⟩
  have HF := Lib.hid (And.intro hl1 (HE.out.trans (hb1.mono HE.out.size)))
  clear hl1 hb1
  go_wp2_with fail
  go_ret2
  exact ⟨_, rfl, HF.out.1, HF.out.2⟩
end Go.Proofs.YtienaogmljlmlaaGreatDoor
end
section
namespace Go.Proofs.YtienaogmljlmlaaGreatDoor
open Go.RowKit Go.Extern.Stop Go.Stop Go.Extern WordM RuleM NatM

theorem setCell_same {w : World} {h i : Nat} {cs : Array Value} {T : TypeId} {v : Value} (hh : w.heap[h]? = some (.cells cs T (0, 0))) (hv : cs[i]? = some v) : w.setCell ⟨h, i, none⟩ v = w := by
  have hm : (w.heap.modify h fun
      | .cells c elem frozen => .cells (if (none : Option (Nat × Nat)).isSome then c else c.setIfInBounds i v) elem frozen
      | o => o) = w.heap := by
    apply Array.ext_getElem?
    intro j
    rw [Array.getElem?_modify]
    split
    · rename_i e
      subst e
      rw [hh]
      have : cs.setIfInBounds i v = cs := by
        apply Array.ext_getElem?
        intro z
        rw [Array.getElem?_setIfInBounds]
        split
        · rename_i e; subst e
          split
          · exact hv.symm
          · rename_i hz; rw [Array.getElem?_eq_none (by omega)]
        · rfl
      simp [this]
    · rfl
  exact congrArg (fun h => ({ w with heap := h } : World)) hm
theorem put3_same {w : World} {h : Nat} {a b c : Value} (k : Rul3 w h a b c) : put3 w h a b c = w := by
  unfold put3
  rw [setCell_same k.heap rfl, setCell_same k.heap rfl, setCell_same k.heap rfl]
theorem IntO.put3 {base h : Nat} {w : World} {p : Option Addr} {c : Nat} {l : List Int} (ho : IntO base w p c l) (hh : h < base) (a b d : Value) : IntO base (put3 w h a b d) p c l :=
  ownsRow_setCell_below (ownsRow_setCell_below (ownsRow_setCell_below ho (a := ⟨h, 0, none⟩) hh a) (a := ⟨h, 1, none⟩) hh b) (a := ⟨h, 2, none⟩) hh d

theorem Rul3.setOther {w : World} {h : Nat} {a b c : Value} (k : Rul3 w h a b c) (g i : Nat) (hg : g ≠ h) (v : Value) : Rul3 (w.setCell ⟨g, i, none⟩ v) h a b c := ⟨by
  show (w.heap.modify g _)[h]? = _
  rw [Array.getElem?_modify, if_neg hg]
  exact k.heap⟩
theorem Rul3.putOther {w : World} {h : Nat} {a b c : Value} (k : Rul3 w h a b c) (g : Nat) (hg : g ≠ h) (x y z : Value) : Rul3 (put3 w g x y z) h a b c := ((k.setOther g 0 hg x).setOther g 1 hg y).setOther g 2 hg z

/-- no rule -/
def noRule : Value := .agg #[.int .i64 0, .int .i64 0, .slice none 0 0]
/-- a new rule, and no error -/
def RuleOk (w : World) (k r : Nat) (t : List Int) (e : Ending) (w' : World) : Prop :=
  ∃ p c, e = .returned (.tuple #[.agg #[.int .i64 (k : Int), .int .i64 (r : Int), .slice p t.length c], .nilIface]) ∧ IntO w.heap.size w' p c t ∧ Below w.heap.size w w'
/-- the rule with this number, and no error -/
def FromOk (w : World) (k r i : Nat) (e : Ending) (w' : World) : Prop := ∃ t, OkR k r t ∧ codeR k t = i ∧ RuleOk w k r t e w'

set_option maxRecDepth 100000 in
set_option maxHeartbeats 4000000 in
theorem from_ok (k r : Nat) (p : Option Addr) (m c : Nat) (a : List Nat) (w : World) (hm : m = a.length) (h : NatV w.heap.size w p c a) (hl : a.length ≤ 100000) (h1 : 1 ≤ k) (h4 : k ≤ 4) (h3 : r ≤ 3) (hs : k ^ (2 * r + 1) ≤ 256) (hlt : V32 a < k ^ (k ^ (2 * r + 1))) :
    Calls Tryz.prog 64 #[.int .i64 (k : Int), .int .i64 (r : Int), .slice p m c] w (FromOk w k r (V32 a)) := by
  have hsz := fun W => small_size_ok k r W h1 h4 h3 hs
  obtain ⟨S, hS⟩ : ∃ S, k ^ (2 * r + 1) = S := ⟨_, rfl⟩
  rw [hS] at hs hlt
  simp only [hS] at hsz
  have hat := fun W hW => at_ok k S p m c a W hm hW hl h1 h4 hs hlt
  have H := Lib.hid (And.intro h (And.intro hsz (And.intro hat hS)))
  clear h hsz hat hS hl hm hlt
  go_enter Tryz.func64, Tryz.ntmps64
  go_wp2_with fail
  obtain ⟨w0, hw0⟩ : ∃ w0, w0 = w.alloc (.cells #[.int .i64 0, .int .i64 0, .slice none 0 0] 36) := ⟨_, rfl⟩
  have hb0 : Below w.heap.size w w0 := by rw [hw0]; exact (Below.refl _ _).alloc (Nat.le_refl _) _
  have hE0 : Rul3 w0 w.heap.size (.int .i64 0) (.int .i64 0) (.slice none 0 0) := by rw [hw0]; exact Rul3.new w _ _ _
  rw [← hw0]
  have HE := Lib.hid (And.intro hE0 hb0)
  clear hw0 hE0 hb0
  go_wp2_with fail
  refine (H.out.2.1 w0).mono ?_
  rintro e w1 ⟨rfl, rfl⟩
  go_wp2_with fail
  refine (H.out.2.2.1 w0 (H.out.1.next HE.out.2)).mono ?_
  rintro e w2 ⟨x, hxl, hxo, hxv, p2, c2, rfl, ho2, hb2⟩
  have hbk := back_any p2 S c2 x w2 hxl.symm ho2.toV (by omega)
  have hxr : x.reverse.length = S := by rw [List.length_reverse, hxl]
  obtain ⟨t, ht⟩ : ∃ t, x.reverse = t := ⟨_, rfl⟩
  rw [ht] at hbk hxr
  have hok : OkR k r t := ⟨h1, h4, h3, by rw [hxr, H.out.2.2.2], by rw [← ht]; exact okW_rev hxo⟩
  have hcd : codeR k t = V32 a := by unfold codeR; rw [← ht, List.reverse_reverse, hxv]
  have H2 := Lib.hid (And.intro (HE.out.1.next hb2) (And.intro (HE.out.2.trans (hb2.mono HE.out.2.size)) (And.intro hok (And.intro hcd (And.intro hbk hxr)))))
  rw [hxl]
  clear hxl hxo hxv ho2 hb2 hbk hxr ht hok hcd
  go_wp2_with fail
  refine H2.out.2.2.2.2.1.mono ?_
  rintro e w3 ⟨p3, c3, rfl, ho3, hb3⟩
  rw [H2.out.2.2.2.2.2]
  have hE3 := H2.out.1.next hb3
  obtain ⟨⟨hf0, hf1, hf2⟩, hc0, hc1, hc2⟩ := hE3.facts
  have hlt0 : w.heap.size < w2.heap.size := H2.out.1.lt
  have H3 := Lib.hid (And.intro ho3 (H2.out.2.1.trans (hb3.mono H2.out.2.1.size)))
  clear ho3 hb3 hE3
  go_wp2_with fail
  refine bodyPost_ret (v := .tuple #[.agg #[.int .i64 (k : Int), .int .i64 (r : Int), .slice p3 S c3], .nilIface]) (by simp [results, Tryz.results64, go_sem, hc0, hc1, hc2]) rfl ⟨t, H2.out.2.2.1, H2.out.2.2.2.1, p3, c3, by rw [H2.out.2.2.2.2.2], ?_, ?_⟩
  · exact (H3.out.1.put3 hlt0 _ _ _).base (Nat.le_of_lt hlt0)
  · exact put3_below H3.out.2 (Nat.le_refl _) _ _ _

/-- where From refuses: the place and the number -/
def chkF (k r : Int) (i : Nat) : Option (Nat × Nat) :=
  if (k < 1 ∨ 4 < k) ∨ r < 0 ∨ 3 < r then some (0, 3) else if 256 < k.toNat ^ (2 * r.toNat + 1) then some (0, 4) else if k.toNat ^ (k.toNat ^ (2 * r.toNat + 1)) ≤ i then some (1, 3) else none
set_option maxRecDepth 100000 in
set_option maxHeartbeats 4000000 in
theorem from_bad (k r : Int) (p : Option Addr) (m c : Nat) (a : List Nat) (w : World) (A : Nat → Addr) (hr : Roots w A) (hm : m = a.length) (h : NatV w.heap.size w p c a) (i n : Nat) (hc : chkF k r (V32 a) = some (i, n)) :
    Calls Tryz.prog 64 #[.int .i64 k, .int .i64 r, .slice p m c] w (Err2 w A ruleOp i n noRule) := by
  have start : ∀ (w0 : World), w0 = w.alloc (.cells #[.int .i64 0, .int .i64 0, .slice none 0 0] 36) → Below w.heap.size w w0 ∧ Rul3 w0 w.heap.size (.int .i64 0) (.int .i64 0) (.slice none 0 0) := fun w0 hw0 =>
    ⟨by rw [hw0]; exact (Below.refl _ _).alloc (Nat.le_refl _) _, by rw [hw0]; exact Rul3.new w _ _ _⟩
  have ST := Lib.hid start
  clear start
  unfold chkF at hc
  split at hc
  · obtain ⟨rfl, rfl⟩ := Prod.mk.inj (Option.some.inj hc)
    rename_i hk
    have hsz := fun W hW => small_size_bad k r W A hW hk
    have H := Lib.hid (And.intro hr hsz)
    clear hr hsz hm h hc hk
    go_enter Tryz.func64, Tryz.ntmps64
    go_wp2_with fail
    obtain ⟨w0, hw0⟩ : ∃ w0, w0 = w.alloc (.cells #[.int .i64 0, .int .i64 0, .slice none 0 0] 36) := ⟨_, rfl⟩
    rw [← hw0]
    have HE := Lib.hid (ST.out w0 hw0)
    clear hw0
    go_wp2_with fail
    refine (H.out.2 w0 (H.out.1.below HE.out.1)).mono ?_
    rintro e w1 ⟨b, rfl, hl1, hb1⟩
    have hE1 := HE.out.2.next hb1
    obtain ⟨⟨hf0, hf1, hf2⟩, hc0, hc1, hc2⟩ := hE1.facts
    have H3 := Lib.hid (And.intro hl1 (And.intro (HE.out.1.trans (hb1.mono HE.out.1.size)) (put3_same hE1)))
    clear hl1 hb1 hE1
    go_wp2_with fail
    refine bodyPost_ret (v := .tuple #[noRule, .iface 109 (.pointer (some ⟨b, 0, none⟩))]) (by simp [results, Tryz.results64, go_sem, hc0, hc1, hc2, noRule]) rfl ⟨b, rfl, ?_, ?_⟩
    · show (Tree.fault b ruleOp _ _).lies (put3 w1 w.heap.size _ _ _)
      rw [H3.out.2.2]; exact H3.out.1
    · show Below _ _ (put3 w1 w.heap.size _ _ _)
      rw [H3.out.2.2]; exact H3.out.2.1
  · rename_i hk
    obtain ⟨K, rfl⟩ : ∃ K : Nat, k = K := ⟨k.toNat, by omega⟩
    obtain ⟨R, rfl⟩ : ∃ R : Nat, r = R := ⟨r.toNat, by omega⟩
    have hk1 : 1 ≤ K := by omega
    have hk4 : K ≤ 4 := by omega
    have hr3 : R ≤ 3 := by omega
    rw [Int.toNat_natCast, Int.toNat_natCast] at hc
    split at hc
    · obtain ⟨rfl, rfl⟩ := Prod.mk.inj (Option.some.inj hc)
      rename_i hbig
      have hsz := fun W hW => small_size_big K R W A hW hk1 hk4 hr3 hbig
      have H := Lib.hid (And.intro hr hsz)
      clear hr hsz hm h hc hk hbig
      go_enter Tryz.func64, Tryz.ntmps64
      go_wp2_with fail
      obtain ⟨w0, hw0⟩ : ∃ w0, w0 = w.alloc (.cells #[.int .i64 0, .int .i64 0, .slice none 0 0] 36) := ⟨_, rfl⟩
      rw [← hw0]
      have HE := Lib.hid (ST.out w0 hw0)
      clear hw0
      go_wp2_with fail
      refine (H.out.2 w0 (H.out.1.below HE.out.1)).mono ?_
      rintro e w1 ⟨b, rfl, hl1, hb1⟩
      have hE1 := HE.out.2.next hb1
      obtain ⟨⟨hf0, hf1, hf2⟩, hc0, hc1, hc2⟩ := hE1.facts
      have H3 := Lib.hid (And.intro hl1 (And.intro (HE.out.1.trans (hb1.mono HE.out.1.size)) (put3_same hE1)))
      clear hl1 hb1 hE1
      go_wp2_with fail
      refine bodyPost_ret (v := .tuple #[noRule, .iface 109 (.pointer (some ⟨b, 0, none⟩))]) (by simp [results, Tryz.results64, go_sem, hc0, hc1, hc2, noRule]) rfl ⟨b, rfl, ?_, ?_⟩
      · show (Tree.fault b ruleOp _ _).lies (put3 w1 w.heap.size _ _ _)
        rw [H3.out.2.2]; exact H3.out.1
      · show Below _ _ (put3 w1 w.heap.size _ _ _)
        rw [H3.out.2.2]; exact H3.out.2.1
    · rename_i hsm
      split at hc
      · obtain ⟨rfl, rfl⟩ := Prod.mk.inj (Option.some.inj hc)
        rename_i hge
        have hsz := fun W => small_size_ok K R W hk1 hk4 hr3 (by omega)
        obtain ⟨S, hS⟩ : ∃ S, K ^ (2 * R + 1) = S := ⟨_, rfl⟩
        rw [hS] at hsm hge
        simp only [hS] at hsz
        have hat := fun W hR hW => at_over K S p m c a W A hR hm hW hk1 hk4 (by omega) hge
        have H := Lib.hid (And.intro hr (And.intro hsz (And.intro hat h)))
        clear hr hsz hm h hc hk hS hat hge
        go_enter Tryz.func64, Tryz.ntmps64
        go_wp2_with fail
        obtain ⟨w0, hw0⟩ : ∃ w0, w0 = w.alloc (.cells #[.int .i64 0, .int .i64 0, .slice none 0 0] 36) := ⟨_, rfl⟩
        rw [← hw0]
        have HE := Lib.hid (ST.out w0 hw0)
        clear hw0
        go_wp2_with fail
        refine (H.out.2.1 w0).mono ?_
        rintro e w1 ⟨rfl, rfl⟩
        go_wp2_with fail
        refine (H.out.2.2.1 w0 (H.out.1.below HE.out.1) (H.out.2.2.2.next HE.out.1)).mono ?_
        rintro e w1 ⟨b1, rfl, _, hb1⟩
        have hbw1 := HE.out.1.trans (hb1.mono HE.out.1.size)
        have H1 := Lib.hid (And.intro (HE.out.2.next hb1) hbw1)
        clear hb1 hbw1
        go_wp2_with fail
        refine (new_at ruleOp 1 3 w1 A (H.out.1.below H1.out.2) (by omega)).mono ?_
        rintro e w2 ⟨b, rfl, hl2, hb2⟩
        have hE1 := H1.out.1.next hb2
        obtain ⟨⟨hf0, hf1, hf2⟩, hc0, hc1, hc2⟩ := hE1.facts
        have H3 := Lib.hid (And.intro hl2 (And.intro (H1.out.2.trans (hb2.mono H1.out.2.size)) (put3_same hE1)))
        clear hl2 hb2 hE1
        go_wp2_with fail
        refine bodyPost_ret (v := .tuple #[noRule, .iface 109 (.pointer (some ⟨b, 0, none⟩))]) (by simp [results, Tryz.results64, go_sem, hc0, hc1, hc2, noRule]) rfl ⟨b, rfl, ?_, ?_⟩
        · show (Tree.fault b ruleOp _ _).lies (put3 w2 w.heap.size _ _ _)
          rw [H3.out.2.2]; exact H3.out.1
        · show Below _ _ (put3 w2 w.heap.size _ _ _)
          rw [H3.out.2.2]; exact H3.out.2.1
      · cases hc
end Go.Proofs.YtienaogmljlmlaaGreatDoor
end
section
namespace Go.Proofs.YtienaogmljlmlaaGreatDoor.RuleM
open WordM

/-- the word of n symbols that writes x -/
def digW (k : Nat) : Nat → Nat → List Int
  | 0, _ => []
  | n + 1, x => digW k n (x / k) ++ [((x % k : Nat) : Int)]
theorem digW_length (k : Nat) : ∀ (n x : Nat), (digW k n x).length = n
  | 0, _ => rfl
  | n + 1, x => by unfold digW; rw [List.length_append, digW_length k n]; rfl
theorem digW_ok {k : Nat} (hk : 1 ≤ k) : ∀ (n x : Nat), okW k (digW k n x)
  | 0, _ => okW_nil k
  | n + 1, x => by
    unfold digW
    refine okW_app (digW_ok hk n _) (fun y hy => ?_)
    have hm : x % k < k := Nat.mod_lt _ hk
    simp at hy
    omega
theorem digW_val {k : Nat} (hk : 1 ≤ k) : ∀ (n x : Nat), x < k ^ n → valW k (digW k n x) = x
  | 0, x, h => by simp at h; subst h; rfl
  | n + 1, x, h => by
    unfold digW
    rw [valW_snoc, digW_val hk n (x / k) ((Nat.div_lt_iff_lt_mul hk).2 (by rw [← Nat.pow_succ]; exact h)), Int.toNat_natCast]
    have := Nat.div_add_mod x k
    rw [Nat.mul_comm] at this
    exact this
theorem digW_of {k : Nat} (hk : 1 ≤ k) {X : List Int} (h : okW k X) : digW k X.length (valW k X) = X :=
  valW_inj (by rw [digW_length]) (digW_ok hk _ _) h (digW_val hk _ _ (valW_lt h))

def symN (X : List Int) (j : Nat) : Nat := (X.getD j 0).toNat
/-- the first J symbols times the factors, added up -/
def dotN (fm : Nat → Nat) (X : List Int) : Nat → Nat
  | 0 => 0
  | j + 1 => dotN fm X j + symN X j * fm j
theorem dot_add {fm : Nat → Nat} {A B C : List Int} {K : Nat} : ∀ {J : Nat}, (∀ j, j < J → symN C j = (symN A j + symN B j) % K) → dotN fm C J % K = (dotN fm A J % K + dotN fm B J % K) % K
  | 0, _ => by simp [dotN]
  | J + 1, h => by
    have ih := dot_add (fm := fm) (J := J) (fun j hj => h j (by omega))
    have hj := h J (by omega)
    unfold dotN
    rw [← Nat.add_mod] at ih
    have e1 : ((symN A J + symN B J) % K * fm J) % K = ((symN A J + symN B J) * fm J) % K := by rw [Nat.mul_mod, Nat.mod_mod, ← Nat.mul_mod]
    rw [hj, ← Nat.add_mod, Nat.add_mod (dotN fm C J), ih, e1, ← Nat.add_mod]
    congr 1
    rw [Nat.add_mul]
    omega
/-- the table of a sum -/
def sumT (K L S : Nat) (fm : Nat → Nat) (J : Nat) : List Int := (List.range S).map fun i => ((dotN fm (digW K L i) J % K : Nat) : Int)
theorem sumT_length (K L S : Nat) (fm : Nat → Nat) (J : Nat) : (sumT K L S fm J).length = S := by unfold sumT; simp
theorem sumT_get {K L S : Nat} {fm : Nat → Nat} {J i : Nat} (h : i < S) : (sumT K L S fm J)[i]? = some ((dotN fm (digW K L i) J % K : Nat) : Int) := by
  unfold sumT
  rw [List.getElem?_map, List.getElem?_range h]; rfl
theorem sumT_ok {K L S : Nat} {fm : Nat → Nat} {J : Nat} (hk : 1 ≤ K) : okW K (sumT K L S fm J) := fun x hx => by
  unfold sumT at hx
  obtain ⟨i, _, rfl⟩ := List.mem_map.1 hx
  have : dotN fm (digW K L i) J % K < K := Nat.mod_lt _ hk
  omega
theorem sumT_ent {K R : Nat} {fm : Nat → Nat} {J : Nat} (hk : 1 ≤ K) {X : List Int} (ho : okW K X) (hl : X.length = 2 * R + 1) : ent (sumT K (2 * R + 1) (K ^ (2 * R + 1)) fm J) (valW K X) = ((dotN fm X J % K : Nat) : Int) := by
  have hlt := valW_lt ho
  rw [hl] at hlt
  have h1 := ent_get (t := sumT K (2 * R + 1) (K ^ (2 * R + 1)) fm J) (i := valW K X) (by rw [sumT_length]; exact hlt)
  have hd := digW_of hk ho
  rw [hl] at hd
  rw [sumT_get hlt, hd] at h1
  exact (Option.some.inj h1).symm
theorem symN_win {w : List Int} {i n j : Nat} (h : j < n) : symN (win w i n) j = symN w (i + j) := by
  unfold symN win
  congr 1
  rw [List.getD_eq_getElem?_getD, List.getD_eq_getElem?_getD, List.getElem?_take, if_pos h, List.getElem?_drop]
/-- images of sums are sums of images -/
theorem img_sum {K R : Nat} {fm : Nat → Nat} {J : Nat} (hk : 1 ≤ K) (hJ : J ≤ 2 * R + 1) {a b c : List Int} (ha : okW K a) (hb : okW K b) (hc : okW K c) (hab : a.length = c.length) (hbc : b.length = c.length) (h : ∀ j, symN c j = (symN a j + symN b j) % K) {i : Nat} (hi : i < c.length - 2 * R) :
    ∃ x y z : Nat, (imgW K R (sumT K (2 * R + 1) (K ^ (2 * R + 1)) fm J) a)[i]? = some (x : Int) ∧ (imgW K R (sumT K (2 * R + 1) (K ^ (2 * R + 1)) fm J) b)[i]? = some (y : Int) ∧ (imgW K R (sumT K (2 * R + 1) (K ^ (2 * R + 1)) fm J) c)[i]? = some (z : Int) ∧ x < K ∧ y < K ∧ z = (x + y) % K := by
  refine ⟨dotN fm (win a i (2 * R + 1)) J % K, dotN fm (win b i (2 * R + 1)) J % K, dotN fm (win c i (2 * R + 1)) J % K, ?_, ?_, ?_, Nat.mod_lt _ hk, Nat.mod_lt _ hk, ?_⟩
  · rw [imgW_get (by omega), sumT_ent hk (win_ok ha _ _) (win_length (by omega))]
  · rw [imgW_get (by omega), sumT_ent hk (win_ok hb _ _) (win_length (by omega))]
  · rw [imgW_get (by omega), sumT_ent hk (win_ok hc _ _) (win_length (by omega))]
  · refine dot_add (fun j hj => ?_)
    rw [symN_win (by omega), symN_win (by omega), symN_win (by omega)]
    exact h (i + j)
end Go.Proofs.YtienaogmljlmlaaGreatDoor.RuleM
end
section
namespace Go.Proofs.YtienaogmljlmlaaGreatDoor.RuleM
open WordM
/-! ### a table by a function on windows -/
def tabN (S : Nat) (G : Nat → Int) : List Int := (List.range S).map G
theorem tabN_length (S : Nat) (G : Nat → Int) : (tabN S G).length = S := by unfold tabN; simp
theorem tabN_get {S : Nat} {G : Nat → Int} {i : Nat} (h : i < S) : (tabN S G)[i]? = some (G i) := by
  unfold tabN
  rw [List.getElem?_map, List.getElem?_range h]; rfl
theorem tabN_ent {S : Nat} {G : Nat → Int} {i : Nat} (h : i < S) : ent (tabN S G) i = G i := by
  have h1 := ent_get (t := tabN S G) (i := i) (by rw [tabN_length]; exact h)
  rw [tabN_get h] at h1
  exact (Option.some.inj h1).symm
theorem tabN_succ (S : Nat) (G : Nat → Int) : tabN (S + 1) G = tabN S G ++ [G S] := by
  unfold tabN
  rw [List.range_succ, List.map_append]; rfl
theorem tabN_ext {S : Nat} {G H : Nat → Int} (h : ∀ i, i < S → G i = H i) : tabN S G = tabN S H := by
  unfold tabN
  exact List.map_congr_left fun i hi => h i (List.mem_range.1 hi)
theorem tabN_self {S : Nat} {t : List Int} (h : t.length = S) : tabN S (ent t) = t := by
  apply List.ext_getElem?
  intro i
  by_cases hi : i < S
  · rw [tabN_get hi, ent_get (by omega)]
  · rw [List.getElem?_eq_none (by rw [tabN_length]; omega), List.getElem?_eq_none (by omega)]
theorem tabN_ok {S k : Nat} {G : Nat → Int} (h : ∀ i, i < S → 0 ≤ G i ∧ G i < (k : Int)) : okW k (tabN S G) := fun x hx => by
  unfold tabN at hx
  obtain ⟨i, hi, rfl⟩ := List.mem_map.1 hx
  exact h i (List.mem_range.1 hi)
theorem tabN_okR {k r : Nat} {G : Nat → Int} (h1 : 1 ≤ k) (h4 : k ≤ 4) (h3 : r ≤ 3) (h : ∀ i, i < k ^ (2 * r + 1) → 0 ≤ G i ∧ G i < (k : Int)) : OkR k r (tabN (k ^ (2 * r + 1)) G) :=
  ⟨h1, h4, h3, tabN_length _ _, tabN_ok h⟩

/-! ### digits -/
theorem digW_app (k : Nat) : ∀ (m n x : Nat), digW k (n + m) x = digW k n (x / k ^ m) ++ digW k m x
  | 0, n, x => by simp [digW]
  | m + 1, n, x => by
    rw [← Nat.add_assoc]
    show digW k (n + m) (x / k) ++ [((x % k : Nat) : Int)] = digW k n (x / k ^ (m + 1)) ++ (digW k m (x / k) ++ [((x % k : Nat) : Int)])
    rw [digW_app k m n (x / k), Nat.div_div_eq_div_mul, ← List.append_assoc, Nat.pow_succ, Nat.mul_comm k]
theorem digW_mod (k : Nat) : ∀ (n x : Nat), digW k n (x % k ^ n) = digW k n x
  | 0, x => rfl
  | n + 1, x => by
    unfold digW
    rw [Nat.pow_succ, Nat.mod_mul_left_div_self, digW_mod k n (x / k), Nat.mod_mul_left_mod]
theorem digW_valmod {k : Nat} (hk : 1 ≤ k) (n x : Nat) : valW k (digW k n x) = x % k ^ n := by
  rw [← digW_mod, digW_val hk n _ (Nat.mod_lt _ (Nat.pow_pos hk))]
/-- the digits of a word's number -/
theorem digW_of' {k n : Nat} (hk : 1 ≤ k) {X : List Int} (h : okW k X) (hn : X.length = n) : digW k n (valW k X) = X := by subst hn; exact digW_of hk h
/-- a window of digits -/
theorem win_dig {k : Nat} (a n b x : Nat) : win (digW k (a + n + b) x) a n = digW k n (x / k ^ b) := by
  unfold win
  rw [digW_app, digW_app, List.append_assoc, List.drop_append_of_le_length (by rw [digW_length]; exact Nat.le_refl _), List.drop_of_length_le (by rw [digW_length]; exact Nat.le_refl _), List.nil_append, List.take_append_of_le_length (by rw [digW_length]; exact Nat.le_refl _), List.take_of_length_le (by rw [digW_length]; exact Nat.le_refl _)]
theorem win_val {k : Nat} (hk : 1 ≤ k) (a n b x : Nat) : valW k (win (digW k (a + n + b) x) a n) = x / k ^ b % k ^ n := by
  rw [win_dig, digW_valmod hk]

/-! ### an image of one window; a table is told by its images -/
theorem img_one {k r : Nat} {t X : List Int} (h : X.length = 2 * r + 1) : imgW k r t X = [ent t (valW k X)] := by
  unfold imgW
  rw [h, show 2 * r + 1 - 2 * r = 1 by omega]
  show [ent t (valW k (win X 0 (2 * r + 1)))] = _
  rw [← h, win_all]
theorem table_ext {k r : Nat} {t u : List Int} (ht : OkR k r t) (hu : OkR k r u) (h : ∀ X : List Int, okW k X → X.length = 2 * r + 1 → imgW k r t X = imgW k r u X) : t = u := by
  rw [← tabN_self ht.len, ← tabN_self hu.len]
  refine tabN_ext fun i hi => ?_
  have := h (digW k (2 * r + 1) i) (digW_ok ht.k1 _ _) (digW_length _ _ _)
  rw [img_one (digW_length _ _ _), img_one (digW_length _ _ _), digW_val ht.k1 _ _ hi] at this
  exact List.cons.inj this |>.1
theorem img_ext {k r : Nat} {t u w : List Int} (hw : okW k w) (h : ∀ X : List Int, okW k X → X.length = 2 * r + 1 → ent t (valW k X) = ent u (valW k X)) : imgW k r t w = imgW k r u w := by
  unfold imgW
  refine List.map_congr_left fun i hi => ?_
  have := List.mem_range.1 hi
  exact h _ (win_ok hw _ _) (win_length (by omega))

/-! ### the rule of the mirror -/
def mirT (k r : Nat) (t : List Int) : List Int := tabN (k ^ (2 * r + 1)) fun i => ent t (valW k (digW k (2 * r + 1) i).reverse)
theorem rev_lt {k n : Nat} (hk : 1 ≤ k) (i : Nat) : valW k (digW k n i).reverse < k ^ n := by
  have := valW_lt (okW_rev (digW_ok hk n i))
  rwa [List.length_reverse, digW_length] at this
theorem mirT_ok {k r : Nat} {t : List Int} (h : OkR k r t) : OkR k r (mirT k r t) :=
  tabN_okR h.k1 h.k4 h.r3 fun i _ => ent_ok h.ok (by rw [h.len]; exact rev_lt h.k1 i)
theorem mirT_ent {k r : Nat} {t X : List Int} (hk : 1 ≤ k) (ho : okW k X) (hl : X.length = 2 * r + 1) : ent (mirT k r t) (valW k X) = ent t (valW k X.reverse) := by
  have hlt := valW_lt ho
  rw [hl] at hlt
  unfold mirT
  rw [tabN_ent hlt, digW_of' hk ho hl]
theorem win_rev {w : List Int} {i n : Nat} (h : i + n ≤ w.length) : win w.reverse i n = (win w (w.length - n - i) n).reverse := by
  unfold win
  apply List.ext_getElem?
  intro j
  by_cases hj : j < n
  · rw [List.getElem?_take, if_pos hj, List.getElem?_drop, List.getElem?_reverse (by omega), List.getElem?_reverse (by rw [List.length_take, List.length_drop]; omega), List.getElem?_take, List.length_take, List.length_drop, if_pos (by omega), List.getElem?_drop]
    congr 1
    omega
  · rw [List.getElem?_eq_none (by rw [List.length_take, List.length_drop, List.length_reverse]; omega), List.getElem?_eq_none (by rw [List.length_reverse, List.length_take, List.length_drop]; omega)]
theorem img_mir {k r : Nat} {t w : List Int} (h : OkR k r t) (hw : okW k w) : imgW k r (mirT k r t) w.reverse = (imgW k r t w).reverse := by
  apply List.ext_getElem?
  intro i
  by_cases hi : i < w.length - 2 * r
  · rw [imgW_get (by rw [List.length_reverse]; exact hi), List.getElem?_reverse (by rw [imgW_length]; exact hi), imgW_length, imgW_get (by omega), mirT_ent h.k1 (win_ok (okW_rev hw) _ _) (win_length (by rw [List.length_reverse]; omega)), win_rev (by omega), List.reverse_reverse]
    congr 4
  · rw [List.getElem?_eq_none (by rw [imgW_length, List.length_reverse]; omega), List.getElem?_eq_none (by rw [List.length_reverse, imgW_length]; omega)]
theorem mir_mir {k r : Nat} {t : List Int} (h : OkR k r t) : mirT k r (mirT k r t) = t :=
  table_ext (mirT_ok (mirT_ok h)) h fun X hX hl => by
    rw [img_one hl, img_one hl, mirT_ent h.k1 hX hl, mirT_ent h.k1 (okW_rev hX) (by rw [List.length_reverse]; exact hl), List.reverse_reverse]

/-! ### other names -/
/-- p is a permutation of k symbols, q the one back -/
structure PermR (k : Nat) (p q : List Int) : Prop where
  lp : p.length = k
  lq : q.length = k
  op : okW k p
  oq : okW k q
  pq : ∀ x : Nat, x < k → ent p (ent q x).toNat = x
  qp : ∀ x : Nat, x < k → ent q (ent p x).toNat = x
def nmW (p X : List Int) : List Int := X.map fun x => ent p x.toNat
theorem nmW_length (p X : List Int) : (nmW p X).length = X.length := by unfold nmW; simp
theorem nmW_ok {k : Nat} {p X : List Int} (hp : okW k p) (hl : p.length = k) (hX : okW k X) : okW k (nmW p X) := fun y hy => by
  unfold nmW at hy
  obtain ⟨x, hx, rfl⟩ := List.mem_map.1 hy
  have := hX x hx
  exact ent_ok hp (by omega)
theorem nmW_back {k : Nat} {p q X : List Int} (h : PermR k p q) (hX : okW k X) : nmW p (nmW q X) = X := by
  unfold nmW
  rw [List.map_map]
  have : ∀ x ∈ X, ((fun x => ent p x.toNat) ∘ fun x => ent q x.toNat) x = x := fun x hx => by
    have h0 := hX x hx
    show ent p (ent q x.toNat).toNat = x
    have := h.pq x.toNat (by omega)
    rw [this]; omega
  rw [List.map_congr_left this, List.map_id']
theorem PermR.swap {k : Nat} {p q : List Int} (h : PermR k p q) : PermR k q p := ⟨h.lq, h.lp, h.oq, h.op, h.qp, h.pq⟩
def renT (k r : Nat) (t p q : List Int) : List Int := tabN (k ^ (2 * r + 1)) fun i => ent p (ent t (valW k (nmW q (digW k (2 * r + 1) i)))).toNat
theorem nm_lt {k n : Nat} {q : List Int} (hk : 1 ≤ k) (hq : okW k q) (hl : q.length = k) (i : Nat) : valW k (nmW q (digW k n i)) < k ^ n := by
  have := valW_lt (nmW_ok hq hl (digW_ok hk n i))
  rwa [nmW_length, digW_length] at this
theorem renT_ok {k r : Nat} {t p q : List Int} (h : OkR k r t) (hp : PermR k p q) : OkR k r (renT k r t p q) :=
  tabN_okR h.k1 h.k4 h.r3 fun i _ => by
    have := ent_ok h.ok (i := valW k (nmW q (digW k (2 * r + 1) i))) (by rw [h.len]; exact nm_lt h.k1 hp.oq hp.lq i)
    exact ent_ok hp.op (by rw [hp.lp]; omega)
theorem renT_ent {k r : Nat} {t p q X : List Int} (hk : 1 ≤ k) (ho : okW k X) (hl : X.length = 2 * r + 1) : ent (renT k r t p q) (valW k X) = ent p (ent t (valW k (nmW q X))).toNat := by
  have hlt := valW_lt ho
  rw [hl] at hlt
  unfold renT
  rw [tabN_ent hlt, digW_of' hk ho hl]
theorem win_nm (p w : List Int) (i n : Nat) : win (nmW p w) i n = nmW p (win w i n) := by
  unfold win nmW
  rw [List.map_take, List.map_drop]
theorem img_ren {k r : Nat} {t p q w : List Int} (h : OkR k r t) (hp : PermR k p q) (hw : okW k w) : imgW k r (renT k r t p q) (nmW p w) = nmW p (imgW k r t w) := by
  apply List.ext_getElem?
  intro i
  by_cases hi : i < w.length - 2 * r
  · rw [imgW_get (by rw [nmW_length]; exact hi), renT_ent h.k1 (win_ok (nmW_ok hp.op hp.lp hw) _ _) (win_length (by rw [nmW_length]; omega)), win_nm, nmW_back hp.swap (win_ok hw _ _)]
    show _ = (nmW p (imgW k r t w))[i]?
    unfold nmW
    rw [List.getElem?_map, imgW_get hi]; rfl
  · rw [List.getElem?_eq_none (by rw [imgW_length, nmW_length]; omega), List.getElem?_eq_none (by rw [nmW_length, imgW_length]; omega)]
theorem ren_ren {k r : Nat} {t p q : List Int} (h : OkR k r t) (hp : PermR k p q) : renT k r (renT k r t p q) q p = t :=
  table_ext (renT_ok (renT_ok h hp) hp.swap) h fun X hX hl => by
    have hnl : (nmW p X).length = 2 * r + 1 := by rw [nmW_length]; exact hl
    have hno := nmW_ok hp.op hp.lp hX
    have hlt := valW_lt hX
    rw [hl] at hlt
    have he := ent_ok h.ok (i := valW k X) (by rw [h.len]; exact hlt)
    rw [img_one hl, img_one hl, renT_ent h.k1 hX hl, renT_ent h.k1 hno hnl, nmW_back hp.swap hX]
    have := hp.qp (ent t (valW k X)).toNat (by omega)
    rw [this]
    congr 1
    omega

/-! ### wider -/
def widT (k r : Nat) (t : List Int) (R : Nat) : List Int := tabN (k ^ (2 * R + 1)) fun i => ent t (i / k ^ (R - r) % k ^ (2 * r + 1))
theorem widT_ok {k r R : Nat} {t : List Int} (h : OkR k r t) (h3 : R ≤ 3) : OkR k R (widT k r t R) :=
  tabN_okR h.k1 h.k4 h3 fun i _ => ent_ok h.ok (by rw [h.len]; exact Nat.mod_lt _ (Nat.pow_pos h.k1))
theorem widT_ent {k r R : Nat} {t X : List Int} (hk : 1 ≤ k) (hr : r ≤ R) (ho : okW k X) (hl : X.length = 2 * R + 1) : ent (widT k r t R) (valW k X) = ent t (valW k (win X (R - r) (2 * r + 1))) := by
  have hlt := valW_lt ho
  rw [hl] at hlt
  unfold widT
  rw [tabN_ent hlt]
  have := win_val hk (R - r) (2 * r + 1) (R - r) (valW k X)
  rw [show R - r + (2 * r + 1) + (R - r) = 2 * R + 1 by omega, digW_of' hk ho hl] at this
  rw [this]
theorem img_wid {k r R : Nat} {t w : List Int} (h : OkR k r t) (hr : r ≤ R) (hw : okW k w) : imgW k R (widT k r t R) w = win (imgW k r t w) (R - r) (w.length - 2 * R) := by
  apply List.ext_getElem?
  intro i
  by_cases hi : i < w.length - 2 * R
  · rw [imgW_get hi, widT_ent h.k1 hr (win_ok hw _ _) (win_length (by omega))]
    unfold win
    rw [List.getElem?_take, if_pos hi, List.getElem?_drop, imgW_get (by omega)]
    have := win_piece w i (2 * R + 1) (R - r) (2 * r + 1) (by omega)
    unfold win at this ⊢
    rw [this, Nat.add_comm i]
  · rw [List.getElem?_eq_none (by rw [imgW_length]; omega), List.getElem?_eq_none (by unfold win; rw [List.length_take]; omega)]
theorem wid_self {k r : Nat} {t : List Int} (h : OkR k r t) : widT k r t r = t :=
  table_ext (widT_ok h h.r3) h fun X hX hl => by
    rw [img_one hl, img_one hl, widT_ent h.k1 (Nat.le_refl _) hX hl, Nat.sub_self, ← hl, win_all]
theorem wid_wid {k r s R : Nat} {t : List Int} (h : OkR k r t) (hr : r ≤ s) (hs : s ≤ R) (h3 : R ≤ 3) : widT k s (widT k r t s) R = widT k r t R :=
  table_ext (widT_ok (widT_ok h (by omega)) h3) (widT_ok h h3) fun X hX hl => by
    rw [img_one hl, img_one hl, widT_ent h.k1 hs hX hl, widT_ent h.k1 hr (win_ok hX _ _) (win_length (by omega)), widT_ent h.k1 (by omega) hX hl]
    have := win_piece X (R - s) (2 * s + 1) (s - r) (2 * r + 1) (by omega)
    rw [show R - s + (s - r) = R - r by omega] at this
    unfold win at this ⊢
    rw [this]
/-- a word of which X is the middle -/
def midW (X : List Int) (d : Nat) : List Int := List.replicate d 0 ++ X ++ List.replicate d 0
theorem midW_length (X : List Int) (d : Nat) : (midW X d).length = d + X.length + d := by unfold midW; simp; omega
theorem midW_ok {k : Nat} {X : List Int} (hk : 1 ≤ k) (h : okW k X) (d : Nat) : okW k (midW X d) :=
  okW_app (okW_app (okW_rep ⟨by omega, by omega⟩ _) h) (okW_rep ⟨by omega, by omega⟩ _)
theorem midW_win (X : List Int) (d n : Nat) (hn : X.length = n) : win (midW X d) d n = X := by
  subst hn
  unfold win midW
  rw [List.append_assoc, List.drop_append_of_le_length (by simp), List.drop_of_length_le (by simp), List.nil_append, List.take_append_of_le_length (by simp), List.take_of_length_le (by simp)]
theorem wid_inj {k r R : Nat} {t u : List Int} (h : OkR k r t) (g : OkR k r u) (hr : r ≤ R) (e : widT k r t R = widT k r u R) : t = u :=
  table_ext h g fun X hX hl => by
    have h1 := widT_ent (t := t) (R := R) h.k1 hr (midW_ok h.k1 hX (R - r)) (by rw [midW_length]; omega)
    have h2 := widT_ent (t := u) (R := R) h.k1 hr (midW_ok h.k1 hX (R - r)) (by rw [midW_length]; omega)
    rw [midW_win _ _ _ hl] at h1 h2
    rw [img_one hl, img_one hl, ← h1, ← h2, e]

/-! ### the narrow form -/
structure NarR (k r : Nat) (t : List Int) (s : Nat) (u : List Int) : Prop where
  ok : OkR k s u
  le : s ≤ r
  wid : widT k s u r = t
  least : ∀ (s' : Nat) (u' : List Int), s' < s → OkR k s' u' → widT k s' u' r ≠ t
theorem NarR.unique {k r s s' : Nat} {t u u' : List Int} (h : NarR k r t s u) (g : NarR k r t s' u') : s = s' ∧ u = u' := by
  have : s = s' := by
    rcases Nat.lt_trichotomy s s' with h1 | h1 | h1
    · exact absurd h.wid (g.least _ _ h1 h.ok)
    · exact h1
    · exact absurd g.wid (h.least _ _ h1 g.ok)
  subst this
  exact ⟨rfl, wid_inj h.ok g.ok h.le (by rw [h.wid, g.wid])⟩
/-- what is narrow of the wide form is narrow of the rule -/
theorem NarR.of_wid {k r R s : Nat} {t u : List Int} (ht : OkR k r t) (hr : r ≤ R) (h3 : R ≤ 3) (h : NarR k R (widT k r t R) s u) : NarR k r t s u := by
  have hs : s ≤ r := by
    rcases Nat.lt_or_ge r s with h1 | h1
    · exact absurd rfl (h.least r t h1 ht)
    · exact h1
  refine ⟨h.ok, hs, ?_, fun s' u' hs' hu' e => ?_⟩
  · exact wid_inj (widT_ok h.ok ht.r3) ht hr (by rw [wid_wid h.ok hs hr h3, h.wid])
  · refine h.least s' u' hs' hu' ?_
    rw [← wid_wid hu' (by omega) hr h3, e]
theorem NarR.to_wid {k r R s : Nat} {t u : List Int} (ht : OkR k r t) (hr : r ≤ R) (h3 : R ≤ 3) (h : NarR k r t s u) : NarR k R (widT k r t R) s u := by
  refine ⟨h.ok, by have := h.le; omega, ?_, fun s' u' hs' hu' e => ?_⟩
  · rw [← wid_wid h.ok h.le hr h3, h.wid]
  · refine h.least s' u' hs' hu' ?_
    have := h.le
    exact wid_inj (widT_ok hu' ht.r3) ht hr (by rw [wid_wid hu' (by omega) hr h3, e])
theorem NarR.self {k r s : Nat} {t u : List Int} (hr : r ≤ 3) (h : NarR k r t s u) : NarR k s u s u := by
  refine ⟨h.ok, Nat.le_refl _, wid_self h.ok, fun s' u' hs' hu' e => ?_⟩
  refine h.least s' u' hs' hu' ?_
  rw [← wid_wid hu' (by omega) h.le hr, e, h.wid]
/-- the same map: at the greater radius -/
theorem same_iff {k r r' s s' : Nat} {t t' u u' : List Int} (ht : OkR k r t) (ht' : OkR k r' t') (h : NarR k r t s u) (h' : NarR k r' t' s' u') :
    (s = s' ∧ u = u') ↔ widT k r t (max r r') = widT k r' t' (max r r') := by
  have h3 : max r r' ≤ 3 := by have := ht.r3; have := ht'.r3; omega
  have hN := h.to_wid ht (R := max r r') (by omega) h3
  have hN' := h'.to_wid ht' (R := max r r') (by omega) h3
  constructor
  · rintro ⟨rfl, rfl⟩
    rw [← hN.wid, ← hN'.wid]
  · intro e
    rw [← e] at hN'
    exact hN.unique hN'
/-- the inner table of a table: what stands at 0 w 0 -/
def innT (k R : Nat) (t : List Int) : List Int := tabN (k ^ (2 * R + 1)) fun i => ent t (i * k)
theorem innT_ok {k R : Nat} {t : List Int} (h : OkR k (R + 1) t) : OkR k R (innT k R t) :=
  tabN_okR h.k1 h.k4 (by have := h.r3; omega) fun i hi => ent_ok h.ok (by
    rw [h.len, show 2 * (R + 1) + 1 = (2 * R + 1) + 1 + 1 by omega, Nat.pow_succ, Nat.pow_succ]
    have h1 : i * k < k ^ (2 * R + 1) * k := Nat.mul_lt_mul_of_pos_right hi h.k1
    exact Nat.lt_of_lt_of_le h1 (Nat.le_mul_of_pos_right _ h.k1))
theorem inn_wid {k R : Nat} {u : List Int} (h : OkR k R u) : innT k R (widT k R u (R + 1)) = u := by
  rw [← tabN_self h.len]
  unfold innT
  refine tabN_ext fun i hi => ?_
  have hk := h.k1
  have h1 : i * k < k ^ (2 * (R + 1) + 1) := by
    rw [show 2 * (R + 1) + 1 = (2 * R + 1) + 1 + 1 by omega, Nat.pow_succ, Nat.pow_succ]
    exact Nat.lt_of_lt_of_le (Nat.mul_lt_mul_of_pos_right hi hk) (Nat.le_mul_of_pos_right _ hk)
  rw [tabN_self h.len]
  unfold widT
  rw [tabN_ent h1, show R + 1 - R = 1 by omega, Nat.pow_one, Nat.mul_div_cancel _ hk, Nat.mod_eq_of_lt hi]
/-- where the inner table does not tell, nothing narrower does -/
theorem nar_stop {k R : Nat} {t : List Int} (h : OkR k (R + 1) t) (hne : widT k R (innT k R t) (R + 1) ≠ t) : NarR k (R + 1) t (R + 1) t := by
  refine ⟨h, Nat.le_refl _, wid_self h, fun s' u' hs' hu' e => hne ?_⟩
  have h3 := h.r3
  have e2 := wid_wid hu' (s := R) (R := R + 1) (by omega) (by omega) h3
  rw [e] at e2
  have := inn_wid (widT_ok hu' (R := R) (by omega))
  rw [e2] at this
  rw [this, e2]
theorem nar_zero {k : Nat} {t : List Int} (h : OkR k 0 t) : NarR k 0 t 0 t := ⟨h, Nat.le_refl _, wid_self h, fun s' _ hs' => absurd hs' (by omega)⟩
theorem nar_step {k r R s : Nat} {t u v : List Int} (hv : OkR k R v) (hR : R ≤ r) (h3 : r ≤ 3) (hw : widT k R v r = t) (h : NarR k R v s u) : NarR k r t s u := by
  rw [← hw]
  exact h.to_wid hv hR h3
end Go.Proofs.YtienaogmljlmlaaGreatDoor.RuleM
end
section
namespace Go.Proofs.YtienaogmljlmlaaGreatDoor.RuleM
open WordM
/-! ### one behind the other -/
def cmpT (k a b : Nat) (ta tb : List Int) : List Int := tabN (k ^ (2 * (a + b) + 1)) fun i => ent ta (valW k (imgW k b tb (digW k (2 * (a + b) + 1) i)))
theorem cmpT_ok {k a b : Nat} {ta tb : List Int} (ha : OkR k a ta) (hb : OkR k b tb) (h3 : a + b ≤ 3) : OkR k (a + b) (cmpT k a b ta tb) :=
  tabN_okR ha.k1 ha.k4 h3 fun i _ => by
    have h1 := valW_lt (imgW_ok hb (digW_ok hb.k1 (2 * (a + b) + 1) i))
    rw [imgW_length, digW_length, show 2 * (a + b) + 1 - 2 * b = 2 * a + 1 by omega] at h1
    exact ent_ok ha.ok (by rw [ha.len]; exact h1)
theorem cmpT_ent {k a b : Nat} {ta tb X : List Int} (hk : 1 ≤ k) (ho : okW k X) (hl : X.length = 2 * (a + b) + 1) : ent (cmpT k a b ta tb) (valW k X) = ent ta (valW k (imgW k b tb X)) := by
  have hlt := valW_lt ho
  rw [hl] at hlt
  unfold cmpT
  rw [tabN_ent hlt, digW_of' hk ho hl]
theorem win_img {k r : Nat} {t w : List Int} {i n : Nat} (h : i + n + 2 * r ≤ w.length) : win (imgW k r t w) i n = imgW k r t (win w i (n + 2 * r)) := by
  show ((imgW k r t w).drop i).take n = imgW k r t ((w.drop i).take (n + 2 * r))
  rw [img_piece (by omega), Nat.add_sub_cancel]
theorem img_cmp {k a b : Nat} {ta tb w : List Int} (hb : OkR k b tb) (hw : okW k w) : imgW k (a + b) (cmpT k a b ta tb) w = imgW k a ta (imgW k b tb w) := by
  apply List.ext_getElem?
  intro i
  by_cases hi : i < w.length - 2 * (a + b)
  · rw [imgW_get hi, imgW_get (by rw [imgW_length]; omega), cmpT_ent hb.k1 (win_ok hw _ _) (win_length (by omega)), win_img (by omega)]
    rw [show 2 * a + 1 + 2 * b = 2 * (a + b) + 1 by omega]
  · rw [List.getElem?_eq_none (by rw [imgW_length]; omega), List.getElem?_eq_none (by rw [imgW_length, imgW_length]; omega)]
theorem cmp_assoc {k a b c : Nat} {ta tb tc : List Int} (ha : OkR k a ta) (hb : OkR k b tb) (hc : OkR k c tc) (h3 : a + b + c ≤ 3) :
    cmpT k (a + b) c (cmpT k a b ta tb) tc = cmpT k a (b + c) ta (cmpT k b c tb tc) := by
  have h1 := cmpT_ok ha hb (by omega)
  have h2 := cmpT_ok hb hc (by omega)
  have e : a + (b + c) = a + b + c := by omega
  have h3' := cmpT_ok ha h2 (by omega)
  rw [e] at h3'
  refine table_ext (cmpT_ok h1 hc h3) h3' fun X hX hl => ?_
  rw [img_cmp hc hX, img_cmp hb (imgW_ok hc hX), ← e, img_cmp h2 hX, img_cmp hc hX]

/-! ### powers -/
def idT (k : Nat) : List Int := tabN k fun i => (i : Int)
theorem idT_ok {k : Nat} (h1 : 1 ≤ k) (h4 : k ≤ 4) : OkR k 0 (idT k) := by
  have := tabN_okR (r := 0) (G := fun i => (i : Int)) h1 h4 (by omega) (fun i hi => by simp at hi; omega)
  simpa [idT] using this
theorem idT_ent {k : Nat} {X : List Int} (ho : okW k X) (hl : X.length = 1) : [ent (idT k) (valW k X)] = X := by
  match X, hl with
  | [x], _ =>
    have h := ho x (List.mem_singleton.2 rfl)
    have e : valW k [x] = x.toNat := by show valW k ([] ++ [x]) = _; rw [valW_snoc]; show 0 * k + _ = _; omega
    rw [e]
    unfold idT
    rw [tabN_ent (by omega)]
    congr 1
    omega
theorem img_id {k : Nat} {w : List Int} (hw : okW k w) : imgW k 0 (idT k) w = w := by
  apply List.ext_getElem?
  intro i
  by_cases hi : i < w.length
  · rw [imgW_get (by omega)]
    have h := idT_ent (win_ok hw i 1) (win_length (by omega))
    have h2 : (win w i 1)[0]? = w[i]? := by unfold win; rw [List.getElem?_take, if_pos (by omega), List.getElem?_drop, Nat.add_zero]
    have h3 := congrArg (fun l : List Int => l[0]?) h
    rw [← h2, ← h3]; rfl
  · rw [List.getElem?_eq_none (by rw [imgW_length]; omega), List.getElem?_eq_none (by omega)]
theorem cmp_id {k r : Nat} {t : List Int} (h : OkR k r t) : cmpT k r 0 t (idT k) = t :=
  table_ext (cmpT_ok h (idT_ok h.k1 h.k4) h.r3) h fun X hX hl => by
    have := img_cmp (ta := t) (a := r) (idT_ok h.k1 h.k4) hX
    rw [img_id hX] at this
    exact this
theorem id_cmp {k r : Nat} {t : List Int} (h : OkR k r t) : cmpT k 0 r (idT k) t = t := by
  have h1 := cmpT_ok (idT_ok h.k1 h.k4) h (by have := h.r3; omega)
  rw [Nat.zero_add] at h1
  refine table_ext h1 h fun X hX hl => ?_
  have := img_cmp (ta := idT k) (a := 0) h hX
  rw [img_id (imgW_ok h hX), Nat.zero_add] at this
  exact this
/-- the table of t times the rule -/
def powT (k r : Nat) (t : List Int) : Nat → List Int
  | 0 => idT k
  | n + 1 => cmpT k r (r * n) t (powT k r t n)
theorem powT_ok {k r : Nat} {t : List Int} (h : OkR k r t) : ∀ (n : Nat), r * n ≤ 3 → OkR k (r * n) (powT k r t n)
  | 0, _ => idT_ok h.k1 h.k4
  | n + 1, h3 => by
    rw [Nat.mul_succ] at h3
    have := cmpT_ok h (powT_ok h n (by omega)) (by omega)
    rw [Nat.mul_succ, Nat.add_comm]
    exact this
theorem pow_add {k r : Nat} {t : List Int} (h : OkR k r t) : ∀ (m n : Nat), r * (m + n) ≤ 3 → powT k r t (m + n) = cmpT k (r * m) (r * n) (powT k r t m) (powT k r t n)
  | 0, n, h3 => by
    rw [Nat.zero_add] at h3 ⊢
    rw [Nat.mul_zero]
    show _ = cmpT k 0 (r * n) (idT k) _
    rw [id_cmp (powT_ok h n h3)]
  | m + 1, n, h3 => by
    have h3' : r * m + r * n + r ≤ 3 := by
      have e : r * (m + 1 + n) = r * m + r * n + r := by rw [show m + 1 + n = m + n + 1 by omega, Nat.mul_succ, Nat.mul_add]
      omega
    rw [show m + 1 + n = m + n + 1 by omega]
    show cmpT k r (r * (m + n)) t (powT k r t (m + n)) = cmpT k (r * (m + 1)) (r * n) (cmpT k r (r * m) t (powT k r t m)) (powT k r t n)
    rw [pow_add h m n (by rw [Nat.mul_add]; omega), Nat.mul_add, ← cmp_assoc h (powT_ok h m (by omega)) (powT_ok h n (by omega)) (by omega), Nat.mul_succ, Nat.add_comm r]
theorem pow_one {k r : Nat} {t : List Int} (h : OkR k r t) : powT k r t 1 = t := cmp_id h
/-- the image as often -/
def imgN (k r : Nat) (t w : List Int) : Nat → List Int
  | 0 => w
  | n + 1 => imgW k r t (imgN k r t w n)
theorem imgN_ok {k r : Nat} {t w : List Int} (h : OkR k r t) (hw : okW k w) : ∀ n, okW k (imgN k r t w n)
  | 0 => hw
  | n + 1 => imgW_ok h (imgN_ok h hw n)
theorem imgN_length {k r : Nat} {t w : List Int} : ∀ n, (imgN k r t w n).length = w.length - 2 * (r * n)
  | 0 => rfl
  | n + 1 => by
    show (imgW k r t (imgN k r t w n)).length = _
    rw [imgW_length, imgN_length n, Nat.mul_succ]; omega
theorem img_pow {k r : Nat} {t w : List Int} (h : OkR k r t) (hw : okW k w) : ∀ n, r * n ≤ 3 → imgW k (r * n) (powT k r t n) w = imgN k r t w n
  | 0, _ => img_id hw
  | n + 1, h3 => by
    rw [Nat.mul_succ] at h3
    show imgW k (r * (n + 1)) (cmpT k r (r * n) t (powT k r t n)) w = imgW k r t (imgN k r t w n)
    rw [Nat.mul_succ, Nat.add_comm, img_cmp (powT_ok h n (by omega)) hw, img_pow h hw n (by omega)]
/-! ### shifts -/
def shiN (d : Int) : Nat := d.natAbs
def shiT (k : Nat) (d : Int) : List Int := tabN (k ^ (2 * d.natAbs + 1)) fun i => if d < 0 then ((i / k ^ (2 * d.natAbs) : Nat) : Int) else ((i % k : Nat) : Int)
theorem shiT_ok {k : Nat} {d : Int} (h1 : 1 ≤ k) (h4 : k ≤ 4) (h3 : d.natAbs ≤ 3) : OkR k d.natAbs (shiT k d) :=
  tabN_okR h1 h4 h3 fun i hi => by
    have ha : i / k ^ (2 * d.natAbs) < k := (Nat.div_lt_iff_lt_mul (Nat.pow_pos h1)).2 (by rw [Nat.mul_comm, ← Nat.pow_succ]; exact hi)
    have hb : i % k < k := Nat.mod_lt _ h1
    show 0 ≤ (if d < 0 then ((i / k ^ (2 * d.natAbs) : Nat) : Int) else ((i % k : Nat) : Int)) ∧ (if d < 0 then ((i / k ^ (2 * d.natAbs) : Nat) : Int) else ((i % k : Nat) : Int)) < (k : Int)
    generalize i / k ^ (2 * d.natAbs) = x at ha ⊢
    generalize i % k = y at hb ⊢
    split <;> omega
end Go.Proofs.YtienaogmljlmlaaGreatDoor.RuleM
end
section
namespace Go.Proofs.YtienaogmljlmlaaGreatDoor
open Go.RowKit Go.Extern.Stop Go.Stop Go.Extern WordM RuleM NatM

theorem small_p7 {k j : Nat} (h4 : k ≤ 4) (h : j ≤ 7) : k ^ j ≤ 16384 := Nat.le_trans (Nat.pow_le_pow_left h4 _) (Nat.le_trans (Nat.pow_le_pow_right (by omega) h) (by decide))
set_option maxHeartbeats 1000000 in
theorem fpower_any (k n : Nat) (w : World) (h4 : k ≤ 4) (h7 : n ≤ 7) :
    Calls Tryz.prog 131 #[.int .i64 (k : Int), .int .i64 (n : Int)] w fun e w' => e = .returned (.int .i64 ((k ^ n : Nat) : Int)) ∧ w = w' := by
  go_enter Tryz.func131, Tryz.ntmps131
  go_wp2_with fail
  go_loop [5, 7] (fun v5 v6 => ∃ j : Nat, j ≤ n ∧ v6 = .int .i64 (j : Int) ∧ v5 = .int .i64 ((k ^ j : Nat) : Int)) (fun _ v => n - (intOf v).toNat)
  case atStart => exact ⟨0, Nat.zero_le _, rfl, by simp⟩
  case round =>
    obtain ⟨j, hj, rfl, rfl⟩ := hrel
    by_cases hlt : j < n
    · have hs := small_p7 (j := j) h4 (by omega)
      have hn := Nat.pow_succ k j
      obtain ⟨s, hs'⟩ : ∃ s, k ^ j = s := ⟨_, rfl⟩
      rw [hs'] at hn hs ⊢
      have hsq : s * k ≤ 16384 * 4 := Nat.mul_le_mul hs h4
      have hsm : ((s : Int) * (k : Int)) = ((s * k : Nat) : Int) := by push_cast; rfl
      obtain ⟨u, hu⟩ : ∃ u, s * k = u := ⟨_, rfl⟩
      rw [hu] at hsq hsm hn
      have w2 : IntKind.i64.wrap ((s : Int) * (k : Int)) = (u : Int) := by rw [hsm, IntWalk.i64_in _ (by omega)]
      have HU := Lib.hid hn
      clear hn hs' hsm hu
      go_wp2_with fail
      go_round
      case rel => exact ⟨j + 1, by omega, by go_num, by rw [HU.out]⟩
      case measure => simp [intOf]; omega
    · obtain rfl : j = n := by omega
      go_wp2_with fail
      go_ret
      exact ⟨rfl, rfl⟩

/-- what a function value is asked: of every window its symbol, in whatever later world -/
def Gives (w : World) (F : FuncId) (C : Array Value) (S : Nat) (G : Nat → Int) : Prop :=
  ∀ (i : Nat), i < S → ∀ wx : World, Below w.heap.size w wx → Calls Tryz.prog F (#[.int .i64 (i : Int)] ++ C) wx (Tells (.int .i64 (G i)) wx)
/-- a new rule -/
def TabPost (w : World) (K R : Int) (t : List Int) (e : Ending) (w' : World) : Prop :=
  ∃ p c, e = .returned (.agg #[.int .i64 K, .int .i64 R, .slice p t.length c]) ∧ IntO w.heap.size w' p c t ∧ Below w.heap.size w w'
def TabRel (w : World) (h g S : Nat) (G : Nat → Int) (v17 : Value) (wr : World) : Prop :=
  ∃ j : Nat, j ≤ S ∧ v17 = .int .i64 (j : Int) ∧ IntO (h + 1) wr (some ⟨g, 0, none⟩) S (tabN j G ++ List.replicate (S - j) 0) ∧ Below w.heap.size w wr ∧ Rul3 wr h (.int .i64 0) (.int .i64 0) (.slice none 0 0)
set_option maxRecDepth 100000 in
set_option maxHeartbeats 4000000 in
theorem tabulate_any (K R : Nat) (F : FuncId) (C : Array Value) (w : World) (G : Nat → Int) (h4 : K ≤ 4) (h3 : R ≤ 3) (he : Enters Tryz.prog F) (hg : Gives w F C (K ^ (2 * R + 1)) G) :
    Calls Tryz.prog 129 #[.int .i64 (K : Int), .int .i64 (R : Int), .func (.func F) #[] C] w (TabPost w K R (tabN (K ^ (2 * R + 1)) G)) := by
  have hpw := fun W => fpower_any K (2 * R + 1) W h4 (by omega)
  have hS16 := pow_le (k := K) (r := R) h4 h3
  obtain ⟨S, hS⟩ : ∃ S, K ^ (2 * R + 1) = S := ⟨_, rfl⟩
  rw [hS] at hS16 hg
  simp only [hS] at hpw ⊢
  obtain ⟨m, hm⟩ : ∃ m, 2 * R + 1 = m := ⟨_, rfl⟩
  have e1 : IntKind.i64.wrap (2 * (R : Int)) = 2 * (R : Int) := by rw [IntWalk.i64_in _ (by omega)]
  have e2 : IntKind.i64.wrap (2 * (R : Int) + 1) = (m : Int) := by rw [IntWalk.i64_in _ (by omega)]; omega
  rw [hm] at hpw
  have hmk := fun W => makeI S (by omega) W
  have H := Lib.hid (And.intro hpw (And.intro hg hmk))
  clear hpw hg hS hm hmk
  go_enter Tryz.func129, Tryz.ntmps129
  go_wp2_with fail
  obtain ⟨w0, hw0⟩ : ∃ w0, w0 = w.alloc (.cells #[.int .i64 0, .int .i64 0, .slice none 0 0] 36) := ⟨_, rfl⟩
  have hb0 : Below w.heap.size w w0 := by rw [hw0]; exact (Below.refl _ _).alloc (Nat.le_refl _) _
  have hE0 : Rul3 w0 w.heap.size (.int .i64 0) (.int .i64 0) (.slice none 0 0) := by rw [hw0]; exact Rul3.new w _ _ _
  rw [← hw0]
  have HE := Lib.hid (And.intro hE0 hb0)
  clear hw0 hE0 hb0
  refine (H.out.1 w0).mono ?_
  rintro e w1 ⟨rfl, rfl⟩
  have hmk := H.out.2.2 w0
  go_wp2_with fail
  have ho0 := (IntO.made w0 S (by omega)).base HE.out.1.lt
  have hbm : Below w.heap.size w (w0.alloc (.cells (madeCells #[.int .i64 0] S) 3)) := HE.out.2.alloc HE.out.2.size _
  have hEm : Rul3 (w0.alloc (.cells (madeCells #[.int .i64 0] S) 3)) w.heap.size (.int .i64 0) (.int .i64 0) (.slice none 0 0) := HE.out.1.next ((Below.refl _ _).alloc (Nat.le_refl _) _)
  have hlt := HE.out.1.lt
  have HO := Lib.hid (And.intro ho0 (And.intro hbm (And.intro hEm hlt)))
  clear hmk ho0 hbm hEm hlt
  go_loopw [17] (fun v17 wr => TabRel w w.heap.size w0.heap.size S G v17 wr) (fun v _ => S - (intOf v).toNat)
  case atStart => exact ⟨0, Nat.zero_le _, rfl, by simpa [tabN] using HO.out.1, HO.out.2.1, HO.out.2.2.1⟩
  case round =>
    obtain ⟨j, hj, rfl, ho, hb, hE⟩ := hrel
    by_cases hlt : j < S
    · have hen : (Sem.run Tryz.prog (callFunc F (#[Value.int IntKind.i64 (j : Int)] ++ C)) wr) = .ok (.enter F (#[Value.int IntKind.i64 (j : Int)] ++ C)) wr := he _ _
      go_wp2_with fail
      refine (H.out.2.1 j hlt wr hb).mono ?_
      rintro e wx ⟨rfl, hbx⟩
      have hb2 := hb.trans (hbx.mono hb.size)
      have ho2 := ho.next hbx
      have hE2 := hE.next hbx
      clear hb ho hE hbx hen
      have hset : ∀ v : Int, (tabN j G ++ List.replicate (S - j) (0 : Int)).set j v = tabN j G ++ v :: List.replicate (S - (j + 1)) 0 := fun v => by
        rw [show S - j = (S - (j + 1)) + 1 by omega, List.replicate_succ, List.set_append_right _ _ (by rw [tabN_length]; omega), tabN_length, Nat.sub_self]; rfl
      have hlen : (tabN j G ++ List.replicate (S - j) (0 : Int)).length = S := by rw [List.length_append, tabN_length, List.length_replicate]; omega
      have hnew : tabN j G ++ G j :: List.replicate (S - (j + 1)) 0 = tabN (j + 1) G ++ List.replicate (S - (j + 1)) 0 := by rw [tabN_succ, List.append_assoc]; rfl
      obtain ⟨xs, hxs⟩ : ∃ xs, tabN j G ++ List.replicate (S - j) (0 : Int) = xs := ⟨_, rfl⟩
      rw [hxs] at ho2 hlen
      simp only [hxs] at hset
      have hown : wx.ownsRow (w.heap.size + 1) 3 1 (.slice (some ⟨w0.heap.size, 0, none⟩) S S) S (cI xs) := by
        unfold IntO at ho2
        rwa [hlen] at ho2
      have hfy : wx.frozen? ⟨w0.heap.size, j, none⟩ = false := hown.frozenAt j
      obtain ⟨y0, hy0⟩ := getI (l := xs) (k := j) (by omega)
      have hcy : wx.cell? ⟨w0.heap.size, j, none⟩ = some (.int .i64 y0) := (hown.cellAt j (by omega)).trans (cI_get hy0)
      obtain ⟨s1, _⟩ := hown.stored j (.int .i64 (G j))
      rw [← cI_set, hset, hnew] at s1
      have hlt0 := HO.out.2.2.2
      have hb3 : Below w.heap.size w (wx.setCell ⟨w0.heap.size, j, none⟩ (.int .i64 (G j))) := hb2.setCell (p := ⟨w0.heap.size, j, none⟩) (Nat.le_of_lt hlt0) _
      have hE3 : Rul3 (wx.setCell ⟨w0.heap.size, j, none⟩ (.int .i64 (G j))) w.heap.size (.int .i64 0) (.int .i64 0) (.slice none 0 0) := hE2.setOther w0.heap.size j (Nat.ne_of_gt hlt0) _
      have hlen2 : (tabN (j + 1) G ++ List.replicate (S - (j + 1)) (0 : Int)).length = S := by rw [List.length_append, tabN_length, List.length_replicate]; omega
      have HS := Lib.hid (And.intro s1 (And.intro hb3 (And.intro hE3 hlen2)))
      clear s1 hb3 hE3 hlen2 hset hxs hown hy0 ho2 hb2 hE2 hlen hnew hlt0
      go_wp2_with fail
      go_roundw
      case rel => exact ⟨j + 1, by omega, by go_num, by unfold IntO; rw [HS.out.2.2.2]; exact HS.out.1, HS.out.2.1, HS.out.2.2.1⟩
      case measure => simp [intOf]; omega
    · obtain rfl : j = S := by omega
      rw [Nat.sub_self, List.replicate_zero, List.append_nil] at ho
      have hl := tabN_length j G
      obtain ⟨hfr, hc0, hc1, hc2⟩ := hE.facts
      have HF := Lib.hid (And.intro ho (And.intro hb (And.intro hE hl)))
      clear ho hb hl hE
      go_wp2_with fail
      have hl2 := HF.out.2.2.2
      refine bodyPost_ret (v := .agg #[.int .i64 (K : Int), .int .i64 (R : Int), .slice (some ⟨w0.heap.size, 0, none⟩) j j]) (by simp [results, Tryz.results129, go_sem, hc0, hc1, hc2]) rfl ⟨some ⟨w0.heap.size, 0, none⟩, j, by rw [hl2], ?_, ?_⟩
      · have := HF.out.1.put3 (h := w.heap.size) (Nat.lt_succ_self _) (.int .i64 (K : Int)) (.int .i64 (R : Int)) (.slice (some ⟨w0.heap.size, 0, none⟩) j j)
        exact this.base (by omega)
      · exact put3_below HF.out.2.1 (Nat.le_refl _) _ _ _
end Go.Proofs.YtienaogmljlmlaaGreatDoor
end
section
namespace Go.Proofs.YtienaogmljlmlaaGreatDoor
open Go.RowKit Go.Extern.Stop Go.Stop Go.Extern WordM RuleM NatM

/-- a variable that a function value holds -/
structure One (w : World) (b : Nat) (T : TypeId) (v : Value) : Prop where
  heap : w.heap[b]? = some (.cells #[v] T (0, 0))
theorem One.new (w : World) (T : TypeId) (v : Value) : One (w.alloc (.cells #[v] T)) w.heap.size T v := ⟨heap_newN w _⟩
theorem One.next {w w' : World} {b : Nat} {T : TypeId} {v : Value} (hb : Below w.heap.size w w') (k : One w b T v) : One w' b T v := ⟨(hb.block b (heap_ltN k.heap)).trans k.heap⟩
theorem One.cell {w : World} {b : Nat} {T : TypeId} {v : Value} (k : One w b T v) : w.cell? ⟨b, 0, none⟩ = some v := by
  rw [cell_of_row _ _ _ _ _ _ k.heap]; rfl
theorem One.lt {w : World} {b : Nat} {T : TypeId} {v : Value} (k : One w b T v) : b < w.heap.size := heap_ltN k.heap

theorem enter_shift : Enters Tryz.prog 132 := enters_of Tryz.func132 (by kernel_rfl) rfl
theorem enter_mirror : Enters Tryz.prog 130 := enters_of Tryz.func130 (by kernel_rfl) rfl
theorem enter_rename : Enters Tryz.prog 138 := enters_of Tryz.func138 (by kernel_rfl) rfl
theorem enter_widen : Enters Tryz.prog 144 := enters_of Tryz.func144 (by kernel_rfl) rfl
theorem enter_narrow : Enters Tryz.prog 143 := enters_of Tryz.func143 (by kernel_rfl) rfl
theorem enter_compose : Enters Tryz.prog 158 := enters_of Tryz.func158 (by kernel_rfl) rfl
theorem enter_repeat : Enters Tryz.prog 160 := enters_of Tryz.func160 (by kernel_rfl) rfl

theorem give_repeat (k : Nat) (w : World) : Gives w 160 #[] k (fun i => (i : Int)) := by
  intro i hi wx hb
  show Calls Tryz.prog 160 #[.int .i64 (i : Int)] wx _
  go_enter Tryz.func160, Tryz.ntmps160
  go_wp2_with fail
  go_ret
  exact ⟨rfl, Below.refl _ _⟩
/-- the window's first symbol, or its last -/
theorem give_shift (k f : Nat) (d : Int) (b1 b2 b3 : Nat) (S : Nat) (w : World) (hk : 1 ≤ k) (hf : 1 ≤ f) (hS : S ≤ 16384) (h1 : One w b1 3 (.int .i64 d)) (h2 : One w b2 3 (.int .i64 (f : Int))) (h3 : One w b3 3 (.int .i64 (k : Int))) :
    Gives w 132 #[.pointer (some ⟨b1, 0, none⟩), .pointer (some ⟨b2, 0, none⟩), .pointer (some ⟨b3, 0, none⟩)] S (fun i => if d < 0 then ((i / f : Nat) : Int) else ((i % k : Nat) : Int)) := by
  intro i hi wx hb
  show Calls Tryz.prog 132 #[.int .i64 (i : Int), .pointer (some ⟨b1, 0, none⟩), .pointer (some ⟨b2, 0, none⟩), .pointer (some ⟨b3, 0, none⟩)] wx _
  have hc1 := (h1.next hb).cell
  have hc2 := (h2.next hb).cell
  have hc3 := (h3.next hb).cell
  have hi16 : i ≤ 16384 := by omega
  have tQ : (i : Int).tdiv (f : Int) = ((i / f : Nat) : Int) := by rw [Int.tdiv_eq_ediv_of_nonneg (by omega)]; rfl
  have tM : (i : Int).tmod (k : Int) = ((i % k : Nat) : Int) := by rw [Int.tmod_eq_emod_of_nonneg (by omega)]; rfl
  have hq : i / f ≤ i := Nat.div_le_self _ _
  have hm : i % k ≤ i := Nat.mod_le _ _
  obtain ⟨q, hq'⟩ : ∃ q, i / f = q := ⟨_, rfl⟩
  obtain ⟨m, hm'⟩ : ∃ m, i % k = m := ⟨_, rfl⟩
  have hf0 : ¬ (f : Int) = 0 := by omega
  have hk0 : ¬ (k : Int) = 0 := by omega
  simp only [hq', hm'] at tQ tM hq hm ⊢
  have tQ' : IntKind.i64.wrap (q : Int) = (q : Int) := by rw [IntWalk.i64_in _ (by omega)]
  clear h1 h2 h3 hb hq' hm' hi
  by_cases hd : d < 0
  · rw [if_pos hd]
    go_enter Tryz.func132, Tryz.ntmps132
    go_wp2_with fail
    go_ret
    exact ⟨rfl, Below.refl _ _⟩
  · rw [if_neg hd]
    go_enter Tryz.func132, Tryz.ntmps132
    go_wp2_with fail
    go_ret
    exact ⟨rfl, Below.refl _ _⟩
end Go.Proofs.YtienaogmljlmlaaGreatDoor
end
