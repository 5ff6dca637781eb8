/- Contracts of library functions, laid at this program's numbers by the kit's lay-plain.mjs: what each says stands in its type.
Lists of ints: slices.Repeat.
Package word by its contracts, seventh part: Times.
Package word by its contracts, eighth part: Index, At.
Package word by its contracts, ninth part: At.
Package word by its contracts, tenth part: At where it is refused; nat.Pow whatever it is asked.
Package rule by its contracts, fifth part: Step where it is refused, Code, From.
The document's own package of words by its contracts: Check.
The document's own package of rules by its contracts: errors, Power, Bad, Size, Check.
The document's own package of rules by its contracts: Check.
The document's own package of words by its contracts: Bad of an error; Text, Next and Index where Check refuses. -/
import Derived.Shelf.Strconv.Itoa0
import Derived.Shelf.Strconv.Itoa1
import Derived.Shelf.LaysM
import Derived.Shelf.Strconv.Itoa2
import Derived.Shelf.Strconv.Itoa3
import Derived.Shelf.Bits.Mul64
import Derived.Shelf.Slices.Turned
import Derived.Shelf.Slices.Reverse
import Derived.Shelf.Slices.Equal
import Derived.Ground.Names2Prog
import Derived.Shelf.Slices.Clone
import Derived.Shelf.Slices.Cells
import Derived.Shelf.Slices.Empties2
import Derived.Test.YtgdjnohhofbcnaaGreatDoorProg
import Derived.Test.YtgdjnohhofbcnaaGreatDoorB3
import Derived.Test.YtgdjnohhofbcnaaGreatDoorB1
import Derived.Laws.CopyOwn
import Derived.Deep.RegionLaw
import Derived.Deep.RegionHeld3
import Derived.Deep.DrawnRows
import Derived.Test.YtgdjnohhofbcnaaGreatDoorB2
section
namespace Go.Proofs
open Go.Shelf
def Tryz.lays129_ren : Go.Shelf.Ren := ⟨fun | 129 => 170 | n => n, fun | 53 => 129 | 3 => 3 | 4 => 4 | 46 => 172 | 5 => 5 | 9 => 9 | n => n, fun | n => n⟩
theorem Tryz.lays129 : Go.Proofs.Lays.n129 Tryz.prog Tryz.lays129_ren := {
  mixed := by kernel_rfl
  f129 := Tryz.func170.trans (congrArg some (by kernel_rfl))
  t3 := Tryz.underlying3
  a3 := Tryz.isAgg3
  z3 := Tryz.sizeOf3
  v3 := Tryz.zeroValue3
  t4 := Tryz.underlying4
  a4 := Tryz.isAgg4
  z4 := Tryz.sizeOf4
  v4 := Tryz.zeroValue4
  t5 := Tryz.underlying5
  a5 := Tryz.isAgg5
  z5 := Tryz.sizeOf5
  v5 := Tryz.zeroValue5
  t9 := Tryz.underlying9
  a9 := Tryz.isAgg9
  z9 := Tryz.sizeOf9
  v9 := Tryz.zeroValue9
  t46 := Tryz.underlying172
  a46 := Tryz.isAgg172
  z46 := Tryz.sizeOf172
  v46 := Tryz.zeroValue172
  t53 := Tryz.underlying129
  a53 := Tryz.isAgg129
  z53 := Tryz.sizeOf129
  v53 := Tryz.zeroValue129 }
theorem Tryz.bits_Len64 (x : Int) (w : World) (h0 : 0 ≤ x) (h1 : x ≤ 18446744073709551615) :
    Calls Tryz.prog 170 #[.int .u64 x] w fun e w' => e = .returned (.int .i64 (Lib.bitLen x.toNat)) ∧ w' = w := Any.bits_Len64 Tryz.lays129 x w h0 h1
def Tryz.lays317_ren : Go.Shelf.Ren := ⟨fun | 317 => 169 | n => n, fun | 3 => 3 | 46 => 172 | n => n, fun | n => n⟩
theorem Tryz.lays317 : Go.Proofs.Lays.n317 Tryz.prog Tryz.lays317_ren := {
  mixed := by kernel_rfl
  f317 := Tryz.func169.trans (congrArg some (by kernel_rfl))
  t3 := Tryz.underlying3
  a3 := Tryz.isAgg3
  z3 := Tryz.sizeOf3
  v3 := Tryz.zeroValue3
  t46 := Tryz.underlying172
  a46 := Tryz.isAgg172
  z46 := Tryz.sizeOf172
  v46 := Tryz.zeroValue172 }
open Go.Lib in
theorem Tryz.internal_strconv_log10Pow2 (x : Nat) (h : x ≤ 64) (w : World) :
    Calls Tryz.prog 169 #[.int .i64 x] w fun e w' => e = .returned (.int .i64 (Lib.l10 x)) ∧ w' = w := Any.internal_strconv_log10Pow2 Tryz.lays317 x h w
def Tryz.lays318_ren : Go.Shelf.Ren := ⟨fun | 318 => 171 | n => n, fun | 3 => 3 | 4 => 4 | n => n, fun | n => n⟩
theorem Tryz.lays318 : Go.Proofs.Lays.n318 Tryz.prog Tryz.lays318_ren := {
  mixed := by kernel_rfl
  f318 := Tryz.func171.trans (congrArg some (by kernel_rfl))
  t3 := Tryz.underlying3
  a3 := Tryz.isAgg3
  z3 := Tryz.sizeOf3
  v3 := Tryz.zeroValue3
  t4 := Tryz.underlying4
  a4 := Tryz.isAgg4
  z4 := Tryz.sizeOf4
  v4 := Tryz.zeroValue4 }
open Go.Lib in
theorem Tryz.internal_strconv_bool2_int (b : Bool) (w : World) :
    Calls Tryz.prog 171 #[.bool b] w fun e w' => e = .returned (.int .i64 (if b then 1 else 0)) ∧ w' = w := Any.internal_strconv_bool2_int Tryz.lays318 b w
def Tryz.lays283_ren : Go.Shelf.Ren := ⟨fun | 283 => 160 | n => n, fun | 3 => 3 | 9 => 9 | 4 => 4 | n => n, fun | n => n⟩
theorem Tryz.lays283 : Go.Proofs.Lays.n283 Tryz.prog Tryz.lays283_ren := {
  mixed := by kernel_rfl
  f283 := Tryz.func160.trans (congrArg some (by kernel_rfl))
  t3 := Tryz.underlying3
  a3 := Tryz.isAgg3
  z3 := Tryz.sizeOf3
  v3 := Tryz.zeroValue3
  t4 := Tryz.underlying4
  a4 := Tryz.isAgg4
  z4 := Tryz.sizeOf4
  v4 := Tryz.zeroValue4
  t9 := Tryz.underlying9
  a9 := Tryz.isAgg9
  z9 := Tryz.sizeOf9
  v9 := Tryz.zeroValue9 }
open Go.Lib in
theorem Tryz.internal_strconv_small (i : Nat) (h : i < 100) (w : World) :
    Calls Tryz.prog 160 #[.int .i64 i] w fun e w' => e = .returned (.string ⟨(Lib.decDigits i).toArray⟩) ∧ w' = w := Any.internal_strconv_small Tryz.lays283 i h w
def Tryz.laysM284_ren : Go.Shelf.Ren := ⟨fun | 284 => 161 | 129 => 170 | 317 => 169 | 318 => 171 | n => n, fun | 53 => 129 | 3 => 3 | 212 => 206 | 0 => 0 | 4 => 4 | 46 => 172 | 5 => 5 | 9 => 9 | n => n, fun | 17 => 14 | n => n⟩
theorem Tryz.laysM284 : Go.Proofs.LaysM.n284 Tryz.prog Tryz.laysM284_ren := {
  mixed := by kernel_rfl
  f129 := Tryz.func170.trans (congrArg some (by kernel_rfl))
  f284 := Tryz.func161.trans (congrArg some (by kernel_rfl))
  f317 := Tryz.func169.trans (congrArg some (by kernel_rfl))
  f318 := Tryz.func171.trans (congrArg some (by kernel_rfl))
  t0 := Tryz.underlying0
  a0 := Tryz.isAgg0
  z0 := Tryz.sizeOf0
  v0 := Tryz.zeroValue0
  t3 := Tryz.underlying3
  a3 := Tryz.isAgg3
  z3 := Tryz.sizeOf3
  v3 := Tryz.zeroValue3
  t4 := Tryz.underlying4
  a4 := Tryz.isAgg4
  z4 := Tryz.sizeOf4
  v4 := Tryz.zeroValue4
  t5 := Tryz.underlying5
  a5 := Tryz.isAgg5
  z5 := Tryz.sizeOf5
  v5 := Tryz.zeroValue5
  t9 := Tryz.underlying9
  a9 := Tryz.isAgg9
  z9 := Tryz.sizeOf9
  v9 := Tryz.zeroValue9
  t46 := Tryz.underlying172
  a46 := Tryz.isAgg172
  z46 := Tryz.sizeOf172
  v46 := Tryz.zeroValue172
  t53 := Tryz.underlying129
  a53 := Tryz.isAgg129
  z53 := Tryz.sizeOf129
  v53 := Tryz.zeroValue129
  t212 := Tryz.underlying206
  a212 := Tryz.isAgg206
  z212 := Tryz.sizeOf206
  v212 := Tryz.zeroValue206
  g17 := by kernel_rfl
  i0 := by kernel_rfl
  i3 := by kernel_rfl
  i4 := by kernel_rfl
  i5 := by kernel_rfl
  i9 := by kernel_rfl
  i46 := by kernel_rfl
  i53 := by kernel_rfl
  i212 := by kernel_rfl
  m17 := by kernel_rfl }
open Go.Lib in
theorem Tryz.internal_strconv_numDigits (u : Nat) (h1 : 1 ≤ u) (h2 : u < 18446744073709551616) (w : World) (htab : Lib.TabIs Tryz.prog w "internal/strconv.uint64pow10" .u64 Lib.pow10Tab) :
    Calls Tryz.prog 161 #[.int .u64 u] w fun e w' => e = .returned (.int .i64 (Lib.nDigits u)) ∧ w' = w := Any.internal_strconv_numDigits Tryz.laysM284 u h1 h2 w htab
def Tryz.lays285_ren : Go.Shelf.Ren := ⟨fun | 285 => 162 | n => n, fun | 37 => 68 | 53 => 129 | 3 => 3 | 4 => 4 | 51 => 94 | 9 => 9 | 5 => 5 | 0 => 0 | n => n, fun | n => n⟩
theorem Tryz.lays285 : Go.Proofs.Lays.n285 Tryz.prog Tryz.lays285_ren := {
  mixed := by kernel_rfl
  f285 := Tryz.func162.trans (congrArg some (by kernel_rfl))
  t0 := Tryz.underlying0
  a0 := Tryz.isAgg0
  z0 := Tryz.sizeOf0
  v0 := Tryz.zeroValue0
  t3 := Tryz.underlying3
  a3 := Tryz.isAgg3
  z3 := Tryz.sizeOf3
  v3 := Tryz.zeroValue3
  t4 := Tryz.underlying4
  a4 := Tryz.isAgg4
  z4 := Tryz.sizeOf4
  v4 := Tryz.zeroValue4
  t5 := Tryz.underlying5
  a5 := Tryz.isAgg5
  z5 := Tryz.sizeOf5
  v5 := Tryz.zeroValue5
  t9 := Tryz.underlying9
  a9 := Tryz.isAgg9
  z9 := Tryz.sizeOf9
  v9 := Tryz.zeroValue9
  t37 := Tryz.underlying68
  a37 := Tryz.isAgg68
  z37 := Tryz.sizeOf68
  v37 := Tryz.zeroValue68
  t51 := Tryz.underlying94
  a51 := Tryz.isAgg94
  z51 := Tryz.sizeOf94
  v51 := Tryz.zeroValue94
  t53 := Tryz.underlying129
  a53 := Tryz.isAgg129
  z53 := Tryz.sizeOf129
  v53 := Tryz.zeroValue129 }
open Go.RowKit Go.Sort Go.Lib in
theorem Tryz.internal_strconv_formatBase10 (blk off cap : Nat) (u : Nat) (d : Array UInt8) (w : World) (hH : Holds (fun (b : UInt8) => Value.int .u8 (b.toNat : Int)) w blk off d) (hu : u < 10 ^ d.size) (hu64 : u < 18446744073709551616) (hsz : d.size < 4611686018427387904) :
    Calls Tryz.prog 162 #[.slice (some ⟨blk, off, none⟩) d.size cap, .int .u64 u] w fun e w' =>
      e = .returned (.tuple #[]) ∧ ∃ (n v' : Nat) (dk : Array UInt8), w' = (putRow (fun (b : UInt8) => Value.int .u8 (b.toNat : Int)) w blk off dk).drewN n ∧ FmtInv d.size u 0 v' dk := Any.internal_strconv_formatBase10 Tryz.lays285 blk off cap u d w hH hu hu64 hsz
def Tryz.laysM246_ren : Go.Shelf.Ren := ⟨fun | 246 => 142 | 283 => 160 | 284 => 161 | 285 => 162 | 286 => 163 | 129 => 170 | 317 => 169 | 318 => 171 | 319 => 172 | 320 => 173 | 337 => 175 | 338 => 176 | n => n, fun | 2 => 2 | 3 => 3 | 9 => 9 | 4 => 4 | 171 => 196 | 0 => 0 | 53 => 129 | 37 => 68 | 5 => 5 | 173 => 199 | 212 => 206 | 51 => 94 | 20 => 20 | 213 => 207 | 46 => 172 | 232 => 210 | 233 => 211 | n => n, fun | 17 => 14 | 18 => 15 | 19 => 16 | n => n⟩
theorem Tryz.laysM246 : Go.Proofs.LaysM.n246 Tryz.prog Tryz.laysM246_ren := {
  mixed := by kernel_rfl
  f129 := Tryz.func170.trans (congrArg some (by kernel_rfl))
  f246 := Tryz.func142.trans (congrArg some (by kernel_rfl))
  f283 := Tryz.func160.trans (congrArg some (by kernel_rfl))
  f284 := Tryz.func161.trans (congrArg some (by kernel_rfl))
  f285 := Tryz.func162.trans (congrArg some (by kernel_rfl))
  f286 := Tryz.func163.trans (congrArg some (by kernel_rfl))
  f317 := Tryz.func169.trans (congrArg some (by kernel_rfl))
  f318 := Tryz.func171.trans (congrArg some (by kernel_rfl))
  f319 := Tryz.func172.trans (congrArg some (by kernel_rfl))
  f320 := Tryz.func173.trans (congrArg some (by kernel_rfl))
  f337 := Tryz.func175.trans (congrArg some (by kernel_rfl))
  f338 := Tryz.func176.trans (congrArg some (by kernel_rfl))
  t0 := Tryz.underlying0
  a0 := Tryz.isAgg0
  z0 := Tryz.sizeOf0
  v0 := Tryz.zeroValue0
  t2 := Tryz.underlying2
  a2 := Tryz.isAgg2
  z2 := Tryz.sizeOf2
  v2 := Tryz.zeroValue2
  t3 := Tryz.underlying3
  a3 := Tryz.isAgg3
  z3 := Tryz.sizeOf3
  v3 := Tryz.zeroValue3
  t4 := Tryz.underlying4
  a4 := Tryz.isAgg4
  z4 := Tryz.sizeOf4
  v4 := Tryz.zeroValue4
  t5 := Tryz.underlying5
  a5 := Tryz.isAgg5
  z5 := Tryz.sizeOf5
  v5 := Tryz.zeroValue5
  t9 := Tryz.underlying9
  a9 := Tryz.isAgg9
  z9 := Tryz.sizeOf9
  v9 := Tryz.zeroValue9
  t20 := Tryz.underlying20
  a20 := Tryz.isAgg20
  z20 := Tryz.sizeOf20
  v20 := Tryz.zeroValue20
  t37 := Tryz.underlying68
  a37 := Tryz.isAgg68
  z37 := Tryz.sizeOf68
  v37 := Tryz.zeroValue68
  t46 := Tryz.underlying172
  a46 := Tryz.isAgg172
  z46 := Tryz.sizeOf172
  v46 := Tryz.zeroValue172
  t51 := Tryz.underlying94
  a51 := Tryz.isAgg94
  z51 := Tryz.sizeOf94
  v51 := Tryz.zeroValue94
  t53 := Tryz.underlying129
  a53 := Tryz.isAgg129
  z53 := Tryz.sizeOf129
  v53 := Tryz.zeroValue129
  t171 := Tryz.underlying196
  a171 := Tryz.isAgg196
  z171 := Tryz.sizeOf196
  v171 := Tryz.zeroValue196
  t173 := Tryz.underlying199
  a173 := Tryz.isAgg199
  z173 := Tryz.sizeOf199
  v173 := Tryz.zeroValue199
  t212 := Tryz.underlying206
  a212 := Tryz.isAgg206
  z212 := Tryz.sizeOf206
  v212 := Tryz.zeroValue206
  t213 := Tryz.underlying207
  a213 := Tryz.isAgg207
  z213 := Tryz.sizeOf207
  t232 := Tryz.underlying210
  a232 := Tryz.isAgg210
  z232 := Tryz.sizeOf210
  v232 := Tryz.zeroValue210
  t233 := Tryz.underlying211
  a233 := Tryz.isAgg211
  z233 := Tryz.sizeOf211
  v233 := Tryz.zeroValue211
  g17 := by kernel_rfl
  g18 := by kernel_rfl
  g19 := by kernel_rfl
  i0 := by kernel_rfl
  i2 := by kernel_rfl
  i3 := by kernel_rfl
  i4 := by kernel_rfl
  i5 := by kernel_rfl
  i9 := by kernel_rfl
  i20 := by kernel_rfl
  i37 := by kernel_rfl
  i46 := by kernel_rfl
  i51 := by kernel_rfl
  i53 := by kernel_rfl
  i171 := by kernel_rfl
  i173 := by kernel_rfl
  i212 := by kernel_rfl
  i232 := by kernel_rfl
  i233 := by kernel_rfl
  m17 := by kernel_rfl
  m18 := by kernel_rfl
  m19 := by kernel_rfl }
open Go.RowKit Go.Sort Go.Lib in
theorem Tryz.internal_strconv_FormatInt_10 (n : Int) (h0 : -9223372036854775808 ≤ n) (h1 : n ≤ 9223372036854775807) (w : World) (htab : Lib.TabIs Tryz.prog w "internal/strconv.uint64pow10" .u64 Lib.pow10Tab) :
    Calls Tryz.prog 142 #[.int .i64 n, .int .i64 10] w fun e w' => e = .returned (.string ⟨(Lib.itoa n).toArray⟩) ∧ ∃ k os, w' = grow (w.drewN k) os := Any.internal_strconv_FormatInt_10 Tryz.laysM246 n h0 h1 w htab
def Tryz.lays246_ren : Go.Shelf.Ren := ⟨fun | 246 => 142 | 283 => 160 | 284 => 161 | 285 => 162 | 286 => 163 | 129 => 170 | 317 => 169 | 318 => 171 | 319 => 172 | 320 => 173 | 337 => 175 | 338 => 176 | n => n, fun | 2 => 2 | 3 => 3 | 9 => 9 | 4 => 4 | 171 => 196 | 0 => 0 | 53 => 129 | 37 => 68 | 5 => 5 | 173 => 199 | 212 => 206 | 51 => 94 | 20 => 20 | 213 => 207 | 46 => 172 | 232 => 210 | 233 => 211 | n => n, fun | 17 => 14 | 18 => 15 | 19 => 16 | n => n⟩
theorem Tryz.lays246 : Go.Proofs.Lays.n246 Tryz.prog Tryz.lays246_ren := {
  mixed := by kernel_rfl
  f129 := Tryz.func170.trans (congrArg some (by kernel_rfl))
  f246 := Tryz.func142.trans (congrArg some (by kernel_rfl))
  f283 := Tryz.func160.trans (congrArg some (by kernel_rfl))
  f284 := Tryz.func161.trans (congrArg some (by kernel_rfl))
  f285 := Tryz.func162.trans (congrArg some (by kernel_rfl))
  f286 := Tryz.func163.trans (congrArg some (by kernel_rfl))
  f317 := Tryz.func169.trans (congrArg some (by kernel_rfl))
  f318 := Tryz.func171.trans (congrArg some (by kernel_rfl))
  f319 := Tryz.func172.trans (congrArg some (by kernel_rfl))
  f320 := Tryz.func173.trans (congrArg some (by kernel_rfl))
  f337 := Tryz.func175.trans (congrArg some (by kernel_rfl))
  f338 := Tryz.func176.trans (congrArg some (by kernel_rfl))
  t0 := Tryz.underlying0
  a0 := Tryz.isAgg0
  z0 := Tryz.sizeOf0
  v0 := Tryz.zeroValue0
  t2 := Tryz.underlying2
  a2 := Tryz.isAgg2
  z2 := Tryz.sizeOf2
  v2 := Tryz.zeroValue2
  t3 := Tryz.underlying3
  a3 := Tryz.isAgg3
  z3 := Tryz.sizeOf3
  v3 := Tryz.zeroValue3
  t4 := Tryz.underlying4
  a4 := Tryz.isAgg4
  z4 := Tryz.sizeOf4
  v4 := Tryz.zeroValue4
  t5 := Tryz.underlying5
  a5 := Tryz.isAgg5
  z5 := Tryz.sizeOf5
  v5 := Tryz.zeroValue5
  t9 := Tryz.underlying9
  a9 := Tryz.isAgg9
  z9 := Tryz.sizeOf9
  v9 := Tryz.zeroValue9
  t20 := Tryz.underlying20
  a20 := Tryz.isAgg20
  z20 := Tryz.sizeOf20
  v20 := Tryz.zeroValue20
  t37 := Tryz.underlying68
  a37 := Tryz.isAgg68
  z37 := Tryz.sizeOf68
  v37 := Tryz.zeroValue68
  t46 := Tryz.underlying172
  a46 := Tryz.isAgg172
  z46 := Tryz.sizeOf172
  v46 := Tryz.zeroValue172
  t51 := Tryz.underlying94
  a51 := Tryz.isAgg94
  z51 := Tryz.sizeOf94
  v51 := Tryz.zeroValue94
  t53 := Tryz.underlying129
  a53 := Tryz.isAgg129
  z53 := Tryz.sizeOf129
  v53 := Tryz.zeroValue129
  t171 := Tryz.underlying196
  a171 := Tryz.isAgg196
  z171 := Tryz.sizeOf196
  v171 := Tryz.zeroValue196
  t173 := Tryz.underlying199
  a173 := Tryz.isAgg199
  z173 := Tryz.sizeOf199
  v173 := Tryz.zeroValue199
  t212 := Tryz.underlying206
  a212 := Tryz.isAgg206
  z212 := Tryz.sizeOf206
  v212 := Tryz.zeroValue206
  t213 := Tryz.underlying207
  a213 := Tryz.isAgg207
  z213 := Tryz.sizeOf207
  t232 := Tryz.underlying210
  a232 := Tryz.isAgg210
  z232 := Tryz.sizeOf210
  v232 := Tryz.zeroValue210
  t233 := Tryz.underlying211
  a233 := Tryz.isAgg211
  z233 := Tryz.sizeOf211
  v233 := Tryz.zeroValue211
  g17 := by kernel_rfl
  g18 := by kernel_rfl
  g19 := by kernel_rfl }
open Go.RowKit Go.Sort Go.Lib in
theorem Tryz.internal_strconv_FormatInt_10_small (i : Nat) (hi : i < 100) (w : World) :
    Calls Tryz.prog 142 #[.int .i64 i, .int .i64 10] w fun e w' => e = .returned (.string ⟨(Lib.decDigits i).toArray⟩) ∧ w' = w := Any.internal_strconv_FormatInt_10_small Tryz.lays246 i hi w
def Tryz.laysM243_ren : Go.Shelf.Ren := ⟨fun | 243 => 87 | 246 => 142 | 283 => 160 | 284 => 161 | 285 => 162 | 286 => 163 | 129 => 170 | 317 => 169 | 318 => 171 | 319 => 172 | 320 => 173 | 337 => 175 | 338 => 176 | n => n, fun | 3 => 3 | 9 => 9 | 2 => 2 | 4 => 4 | 171 => 196 | 0 => 0 | 53 => 129 | 37 => 68 | 5 => 5 | 173 => 199 | 212 => 206 | 51 => 94 | 20 => 20 | 213 => 207 | 46 => 172 | 232 => 210 | 233 => 211 | n => n, fun | 17 => 14 | 18 => 15 | 19 => 16 | n => n⟩
theorem Tryz.laysM243 : Go.Proofs.LaysM.n243 Tryz.prog Tryz.laysM243_ren := {
  mixed := by kernel_rfl
  f129 := Tryz.func170.trans (congrArg some (by kernel_rfl))
  f243 := Tryz.func87.trans (congrArg some (by kernel_rfl))
  f246 := Tryz.func142.trans (congrArg some (by kernel_rfl))
  f283 := Tryz.func160.trans (congrArg some (by kernel_rfl))
  f284 := Tryz.func161.trans (congrArg some (by kernel_rfl))
  f285 := Tryz.func162.trans (congrArg some (by kernel_rfl))
  f286 := Tryz.func163.trans (congrArg some (by kernel_rfl))
  f317 := Tryz.func169.trans (congrArg some (by kernel_rfl))
  f318 := Tryz.func171.trans (congrArg some (by kernel_rfl))
  f319 := Tryz.func172.trans (congrArg some (by kernel_rfl))
  f320 := Tryz.func173.trans (congrArg some (by kernel_rfl))
  f337 := Tryz.func175.trans (congrArg some (by kernel_rfl))
  f338 := Tryz.func176.trans (congrArg some (by kernel_rfl))
  t0 := Tryz.underlying0
  a0 := Tryz.isAgg0
  z0 := Tryz.sizeOf0
  v0 := Tryz.zeroValue0
  t2 := Tryz.underlying2
  a2 := Tryz.isAgg2
  z2 := Tryz.sizeOf2
  v2 := Tryz.zeroValue2
  t3 := Tryz.underlying3
  a3 := Tryz.isAgg3
  z3 := Tryz.sizeOf3
  v3 := Tryz.zeroValue3
  t4 := Tryz.underlying4
  a4 := Tryz.isAgg4
  z4 := Tryz.sizeOf4
  v4 := Tryz.zeroValue4
  t5 := Tryz.underlying5
  a5 := Tryz.isAgg5
  z5 := Tryz.sizeOf5
  v5 := Tryz.zeroValue5
  t9 := Tryz.underlying9
  a9 := Tryz.isAgg9
  z9 := Tryz.sizeOf9
  v9 := Tryz.zeroValue9
  t20 := Tryz.underlying20
  a20 := Tryz.isAgg20
  z20 := Tryz.sizeOf20
  v20 := Tryz.zeroValue20
  t37 := Tryz.underlying68
  a37 := Tryz.isAgg68
  z37 := Tryz.sizeOf68
  v37 := Tryz.zeroValue68
  t46 := Tryz.underlying172
  a46 := Tryz.isAgg172
  z46 := Tryz.sizeOf172
  v46 := Tryz.zeroValue172
  t51 := Tryz.underlying94
  a51 := Tryz.isAgg94
  z51 := Tryz.sizeOf94
  v51 := Tryz.zeroValue94
  t53 := Tryz.underlying129
  a53 := Tryz.isAgg129
  z53 := Tryz.sizeOf129
  v53 := Tryz.zeroValue129
  t171 := Tryz.underlying196
  a171 := Tryz.isAgg196
  z171 := Tryz.sizeOf196
  v171 := Tryz.zeroValue196
  t173 := Tryz.underlying199
  a173 := Tryz.isAgg199
  z173 := Tryz.sizeOf199
  v173 := Tryz.zeroValue199
  t212 := Tryz.underlying206
  a212 := Tryz.isAgg206
  z212 := Tryz.sizeOf206
  v212 := Tryz.zeroValue206
  t213 := Tryz.underlying207
  a213 := Tryz.isAgg207
  z213 := Tryz.sizeOf207
  t232 := Tryz.underlying210
  a232 := Tryz.isAgg210
  z232 := Tryz.sizeOf210
  v232 := Tryz.zeroValue210
  t233 := Tryz.underlying211
  a233 := Tryz.isAgg211
  z233 := Tryz.sizeOf211
  v233 := Tryz.zeroValue211
  g17 := by kernel_rfl
  g18 := by kernel_rfl
  g19 := by kernel_rfl
  i0 := by kernel_rfl
  i2 := by kernel_rfl
  i3 := by kernel_rfl
  i4 := by kernel_rfl
  i5 := by kernel_rfl
  i9 := by kernel_rfl
  i20 := by kernel_rfl
  i37 := by kernel_rfl
  i46 := by kernel_rfl
  i51 := by kernel_rfl
  i53 := by kernel_rfl
  i171 := by kernel_rfl
  i173 := by kernel_rfl
  i212 := by kernel_rfl
  i232 := by kernel_rfl
  i233 := by kernel_rfl
  m17 := by kernel_rfl
  m18 := by kernel_rfl
  m19 := by kernel_rfl }
open Go.RowKit Go.Sort Go.Lib in
theorem Tryz.internal_strconv_Itoa (n : Int) (h0 : -9223372036854775808 ≤ n) (h1 : n ≤ 9223372036854775807) (w : World) (htab : Lib.TabIs Tryz.prog w "internal/strconv.uint64pow10" .u64 Lib.pow10Tab) :
    Calls Tryz.prog 87 #[.int .i64 n] w fun e w' => e = .returned (.string ⟨(Lib.itoa n).toArray⟩) ∧ ∃ k os, w' = grow (w.drewN k) os := Any.internal_strconv_Itoa Tryz.laysM243 n h0 h1 w htab
def Tryz.lays243_ren : Go.Shelf.Ren := ⟨fun | 243 => 87 | 246 => 142 | 283 => 160 | 284 => 161 | 285 => 162 | 286 => 163 | 129 => 170 | 317 => 169 | 318 => 171 | 319 => 172 | 320 => 173 | 337 => 175 | 338 => 176 | n => n, fun | 3 => 3 | 9 => 9 | 2 => 2 | 4 => 4 | 171 => 196 | 0 => 0 | 53 => 129 | 37 => 68 | 5 => 5 | 173 => 199 | 212 => 206 | 51 => 94 | 20 => 20 | 213 => 207 | 46 => 172 | 232 => 210 | 233 => 211 | n => n, fun | 17 => 14 | 18 => 15 | 19 => 16 | n => n⟩
theorem Tryz.lays243 : Go.Proofs.Lays.n243 Tryz.prog Tryz.lays243_ren := {
  mixed := by kernel_rfl
  f129 := Tryz.func170.trans (congrArg some (by kernel_rfl))
  f243 := Tryz.func87.trans (congrArg some (by kernel_rfl))
  f246 := Tryz.func142.trans (congrArg some (by kernel_rfl))
  f283 := Tryz.func160.trans (congrArg some (by kernel_rfl))
  f284 := Tryz.func161.trans (congrArg some (by kernel_rfl))
  f285 := Tryz.func162.trans (congrArg some (by kernel_rfl))
  f286 := Tryz.func163.trans (congrArg some (by kernel_rfl))
  f317 := Tryz.func169.trans (congrArg some (by kernel_rfl))
  f318 := Tryz.func171.trans (congrArg some (by kernel_rfl))
  f319 := Tryz.func172.trans (congrArg some (by kernel_rfl))
  f320 := Tryz.func173.trans (congrArg some (by kernel_rfl))
  f337 := Tryz.func175.trans (congrArg some (by kernel_rfl))
  f338 := Tryz.func176.trans (congrArg some (by kernel_rfl))
  t0 := Tryz.underlying0
  a0 := Tryz.isAgg0
  z0 := Tryz.sizeOf0
  v0 := Tryz.zeroValue0
  t2 := Tryz.underlying2
  a2 := Tryz.isAgg2
  z2 := Tryz.sizeOf2
  v2 := Tryz.zeroValue2
  t3 := Tryz.underlying3
  a3 := Tryz.isAgg3
  z3 := Tryz.sizeOf3
  v3 := Tryz.zeroValue3
  t4 := Tryz.underlying4
  a4 := Tryz.isAgg4
  z4 := Tryz.sizeOf4
  v4 := Tryz.zeroValue4
  t5 := Tryz.underlying5
  a5 := Tryz.isAgg5
  z5 := Tryz.sizeOf5
  v5 := Tryz.zeroValue5
  t9 := Tryz.underlying9
  a9 := Tryz.isAgg9
  z9 := Tryz.sizeOf9
  v9 := Tryz.zeroValue9
  t20 := Tryz.underlying20
  a20 := Tryz.isAgg20
  z20 := Tryz.sizeOf20
  v20 := Tryz.zeroValue20
  t37 := Tryz.underlying68
  a37 := Tryz.isAgg68
  z37 := Tryz.sizeOf68
  v37 := Tryz.zeroValue68
  t46 := Tryz.underlying172
  a46 := Tryz.isAgg172
  z46 := Tryz.sizeOf172
  v46 := Tryz.zeroValue172
  t51 := Tryz.underlying94
  a51 := Tryz.isAgg94
  z51 := Tryz.sizeOf94
  v51 := Tryz.zeroValue94
  t53 := Tryz.underlying129
  a53 := Tryz.isAgg129
  z53 := Tryz.sizeOf129
  v53 := Tryz.zeroValue129
  t171 := Tryz.underlying196
  a171 := Tryz.isAgg196
  z171 := Tryz.sizeOf196
  v171 := Tryz.zeroValue196
  t173 := Tryz.underlying199
  a173 := Tryz.isAgg199
  z173 := Tryz.sizeOf199
  v173 := Tryz.zeroValue199
  t212 := Tryz.underlying206
  a212 := Tryz.isAgg206
  z212 := Tryz.sizeOf206
  v212 := Tryz.zeroValue206
  t213 := Tryz.underlying207
  a213 := Tryz.isAgg207
  z213 := Tryz.sizeOf207
  t232 := Tryz.underlying210
  a232 := Tryz.isAgg210
  z232 := Tryz.sizeOf210
  v232 := Tryz.zeroValue210
  t233 := Tryz.underlying211
  a233 := Tryz.isAgg211
  z233 := Tryz.sizeOf211
  v233 := Tryz.zeroValue211
  g17 := by kernel_rfl
  g18 := by kernel_rfl
  g19 := by kernel_rfl }
open Go.RowKit Go.Sort Go.Lib in
theorem Tryz.internal_strconv_Itoa_small (i : Nat) (hi : i < 100) (w : World) :
    Calls Tryz.prog 87 #[.int .i64 i] w fun e w' => e = .returned (.string ⟨(Lib.decDigits i).toArray⟩) ∧ w' = w := Any.internal_strconv_Itoa_small Tryz.lays243 i hi w
def Tryz.laysM171_ren : Go.Shelf.Ren := ⟨fun | 171 => 27 | 243 => 87 | 246 => 142 | 283 => 160 | 284 => 161 | 285 => 162 | 286 => 163 | 129 => 170 | 317 => 169 | 318 => 171 | 319 => 172 | 320 => 173 | 337 => 175 | 338 => 176 | n => n, fun | 3 => 3 | 9 => 9 | 2 => 2 | 4 => 4 | 171 => 196 | 0 => 0 | 53 => 129 | 37 => 68 | 5 => 5 | 173 => 199 | 212 => 206 | 51 => 94 | 20 => 20 | 213 => 207 | 46 => 172 | 232 => 210 | 233 => 211 | n => n, fun | 17 => 14 | 18 => 15 | 19 => 16 | n => n⟩
theorem Tryz.laysM171 : Go.Proofs.LaysM.n171 Tryz.prog Tryz.laysM171_ren := {
  mixed := by kernel_rfl
  f129 := Tryz.func170.trans (congrArg some (by kernel_rfl))
  f171 := Tryz.func27.trans (congrArg some (by kernel_rfl))
  f243 := Tryz.func87.trans (congrArg some (by kernel_rfl))
  f246 := Tryz.func142.trans (congrArg some (by kernel_rfl))
  f283 := Tryz.func160.trans (congrArg some (by kernel_rfl))
  f284 := Tryz.func161.trans (congrArg some (by kernel_rfl))
  f285 := Tryz.func162.trans (congrArg some (by kernel_rfl))
  f286 := Tryz.func163.trans (congrArg some (by kernel_rfl))
  f317 := Tryz.func169.trans (congrArg some (by kernel_rfl))
  f318 := Tryz.func171.trans (congrArg some (by kernel_rfl))
  f319 := Tryz.func172.trans (congrArg some (by kernel_rfl))
  f320 := Tryz.func173.trans (congrArg some (by kernel_rfl))
  f337 := Tryz.func175.trans (congrArg some (by kernel_rfl))
  f338 := Tryz.func176.trans (congrArg some (by kernel_rfl))
  t0 := Tryz.underlying0
  a0 := Tryz.isAgg0
  z0 := Tryz.sizeOf0
  v0 := Tryz.zeroValue0
  t2 := Tryz.underlying2
  a2 := Tryz.isAgg2
  z2 := Tryz.sizeOf2
  v2 := Tryz.zeroValue2
  t3 := Tryz.underlying3
  a3 := Tryz.isAgg3
  z3 := Tryz.sizeOf3
  v3 := Tryz.zeroValue3
  t4 := Tryz.underlying4
  a4 := Tryz.isAgg4
  z4 := Tryz.sizeOf4
  v4 := Tryz.zeroValue4
  t5 := Tryz.underlying5
  a5 := Tryz.isAgg5
  z5 := Tryz.sizeOf5
  v5 := Tryz.zeroValue5
  t9 := Tryz.underlying9
  a9 := Tryz.isAgg9
  z9 := Tryz.sizeOf9
  v9 := Tryz.zeroValue9
  t20 := Tryz.underlying20
  a20 := Tryz.isAgg20
  z20 := Tryz.sizeOf20
  v20 := Tryz.zeroValue20
  t37 := Tryz.underlying68
  a37 := Tryz.isAgg68
  z37 := Tryz.sizeOf68
  v37 := Tryz.zeroValue68
  t46 := Tryz.underlying172
  a46 := Tryz.isAgg172
  z46 := Tryz.sizeOf172
  v46 := Tryz.zeroValue172
  t51 := Tryz.underlying94
  a51 := Tryz.isAgg94
  z51 := Tryz.sizeOf94
  v51 := Tryz.zeroValue94
  t53 := Tryz.underlying129
  a53 := Tryz.isAgg129
  z53 := Tryz.sizeOf129
  v53 := Tryz.zeroValue129
  t171 := Tryz.underlying196
  a171 := Tryz.isAgg196
  z171 := Tryz.sizeOf196
  v171 := Tryz.zeroValue196
  t173 := Tryz.underlying199
  a173 := Tryz.isAgg199
  z173 := Tryz.sizeOf199
  v173 := Tryz.zeroValue199
  t212 := Tryz.underlying206
  a212 := Tryz.isAgg206
  z212 := Tryz.sizeOf206
  v212 := Tryz.zeroValue206
  t213 := Tryz.underlying207
  a213 := Tryz.isAgg207
  z213 := Tryz.sizeOf207
  t232 := Tryz.underlying210
  a232 := Tryz.isAgg210
  z232 := Tryz.sizeOf210
  v232 := Tryz.zeroValue210
  t233 := Tryz.underlying211
  a233 := Tryz.isAgg211
  z233 := Tryz.sizeOf211
  v233 := Tryz.zeroValue211
  g17 := by kernel_rfl
  g18 := by kernel_rfl
  g19 := by kernel_rfl
  i0 := by kernel_rfl
  i2 := by kernel_rfl
  i3 := by kernel_rfl
  i4 := by kernel_rfl
  i5 := by kernel_rfl
  i9 := by kernel_rfl
  i20 := by kernel_rfl
  i37 := by kernel_rfl
  i46 := by kernel_rfl
  i51 := by kernel_rfl
  i53 := by kernel_rfl
  i171 := by kernel_rfl
  i173 := by kernel_rfl
  i212 := by kernel_rfl
  i232 := by kernel_rfl
  i233 := by kernel_rfl
  m17 := by kernel_rfl
  m18 := by kernel_rfl
  m19 := by kernel_rfl }
open Go.RowKit Go.Sort Go.Lib in
theorem Tryz.strconv_Itoa (n : Int) (h0 : -9223372036854775808 ≤ n) (h1 : n ≤ 9223372036854775807) (w : World) (htab : Lib.TabIs Tryz.prog w "internal/strconv.uint64pow10" .u64 Lib.pow10Tab) :
    Calls Tryz.prog 27 #[.int .i64 n] w fun e w' => e = .returned (.string ⟨(Lib.itoa n).toArray⟩) ∧ ∃ k os, w' = grow (w.drewN k) os := Any.strconv_Itoa Tryz.laysM171 n h0 h1 w htab
def Tryz.lays171_ren : Go.Shelf.Ren := ⟨fun | 171 => 27 | 243 => 87 | 246 => 142 | 283 => 160 | 284 => 161 | 285 => 162 | 286 => 163 | 129 => 170 | 317 => 169 | 318 => 171 | 319 => 172 | 320 => 173 | 337 => 175 | 338 => 176 | n => n, fun | 3 => 3 | 9 => 9 | 2 => 2 | 4 => 4 | 171 => 196 | 0 => 0 | 53 => 129 | 37 => 68 | 5 => 5 | 173 => 199 | 212 => 206 | 51 => 94 | 20 => 20 | 213 => 207 | 46 => 172 | 232 => 210 | 233 => 211 | n => n, fun | 17 => 14 | 18 => 15 | 19 => 16 | n => n⟩
theorem Tryz.lays171 : Go.Proofs.Lays.n171 Tryz.prog Tryz.lays171_ren := {
  mixed := by kernel_rfl
  f129 := Tryz.func170.trans (congrArg some (by kernel_rfl))
  f171 := Tryz.func27.trans (congrArg some (by kernel_rfl))
  f243 := Tryz.func87.trans (congrArg some (by kernel_rfl))
  f246 := Tryz.func142.trans (congrArg some (by kernel_rfl))
  f283 := Tryz.func160.trans (congrArg some (by kernel_rfl))
  f284 := Tryz.func161.trans (congrArg some (by kernel_rfl))
  f285 := Tryz.func162.trans (congrArg some (by kernel_rfl))
  f286 := Tryz.func163.trans (congrArg some (by kernel_rfl))
  f317 := Tryz.func169.trans (congrArg some (by kernel_rfl))
  f318 := Tryz.func171.trans (congrArg some (by kernel_rfl))
  f319 := Tryz.func172.trans (congrArg some (by kernel_rfl))
  f320 := Tryz.func173.trans (congrArg some (by kernel_rfl))
  f337 := Tryz.func175.trans (congrArg some (by kernel_rfl))
  f338 := Tryz.func176.trans (congrArg some (by kernel_rfl))
  t0 := Tryz.underlying0
  a0 := Tryz.isAgg0
  z0 := Tryz.sizeOf0
  v0 := Tryz.zeroValue0
  t2 := Tryz.underlying2
  a2 := Tryz.isAgg2
  z2 := Tryz.sizeOf2
  v2 := Tryz.zeroValue2
  t3 := Tryz.underlying3
  a3 := Tryz.isAgg3
  z3 := Tryz.sizeOf3
  v3 := Tryz.zeroValue3
  t4 := Tryz.underlying4
  a4 := Tryz.isAgg4
  z4 := Tryz.sizeOf4
  v4 := Tryz.zeroValue4
  t5 := Tryz.underlying5
  a5 := Tryz.isAgg5
  z5 := Tryz.sizeOf5
  v5 := Tryz.zeroValue5
  t9 := Tryz.underlying9
  a9 := Tryz.isAgg9
  z9 := Tryz.sizeOf9
  v9 := Tryz.zeroValue9
  t20 := Tryz.underlying20
  a20 := Tryz.isAgg20
  z20 := Tryz.sizeOf20
  v20 := Tryz.zeroValue20
  t37 := Tryz.underlying68
  a37 := Tryz.isAgg68
  z37 := Tryz.sizeOf68
  v37 := Tryz.zeroValue68
  t46 := Tryz.underlying172
  a46 := Tryz.isAgg172
  z46 := Tryz.sizeOf172
  v46 := Tryz.zeroValue172
  t51 := Tryz.underlying94
  a51 := Tryz.isAgg94
  z51 := Tryz.sizeOf94
  v51 := Tryz.zeroValue94
  t53 := Tryz.underlying129
  a53 := Tryz.isAgg129
  z53 := Tryz.sizeOf129
  v53 := Tryz.zeroValue129
  t171 := Tryz.underlying196
  a171 := Tryz.isAgg196
  z171 := Tryz.sizeOf196
  v171 := Tryz.zeroValue196
  t173 := Tryz.underlying199
  a173 := Tryz.isAgg199
  z173 := Tryz.sizeOf199
  v173 := Tryz.zeroValue199
  t212 := Tryz.underlying206
  a212 := Tryz.isAgg206
  z212 := Tryz.sizeOf206
  v212 := Tryz.zeroValue206
  t213 := Tryz.underlying207
  a213 := Tryz.isAgg207
  z213 := Tryz.sizeOf207
  t232 := Tryz.underlying210
  a232 := Tryz.isAgg210
  z232 := Tryz.sizeOf210
  v232 := Tryz.zeroValue210
  t233 := Tryz.underlying211
  a233 := Tryz.isAgg211
  z233 := Tryz.sizeOf211
  v233 := Tryz.zeroValue211
  g17 := by kernel_rfl
  g18 := by kernel_rfl
  g19 := by kernel_rfl }
open Go.RowKit Go.Sort Go.Lib in
theorem Tryz.strconv_Itoa_small (i : Nat) (hi : i < 100) (w : World) :
    Calls Tryz.prog 27 #[.int .i64 i] w fun e w' => e = .returned (.string ⟨(Lib.decDigits i).toArray⟩) ∧ w' = w := Any.strconv_Itoa_small Tryz.lays171 i hi w
def Tryz.lays264_ren : Go.Shelf.Ren := ⟨fun | 264 => 168 | n => n, fun | 53 => 129 | 46 => 172 | n => n, fun | n => n⟩
theorem Tryz.lays264 : Go.Proofs.Lays.n264 Tryz.prog Tryz.lays264_ren := {
  mixed := by kernel_rfl
  f264 := Tryz.func168.trans (congrArg some (by kernel_rfl))
  t46 := Tryz.underlying172
  a46 := Tryz.isAgg172
  z46 := Tryz.sizeOf172
  v46 := Tryz.zeroValue172
  t53 := Tryz.underlying129
  a53 := Tryz.isAgg129
  z53 := Tryz.sizeOf129
  v53 := Tryz.zeroValue129 }
open Go.RowKit Go.Lib in
theorem Tryz.bits_Mul64 (x y : Nat) (hx : x < 18446744073709551616) (hy : y < 18446744073709551616) (w : World) :
    Calls Tryz.prog 168 #[.int .u64 x, .int .u64 y] w fun e w' => e = .returned (.tuple #[.int .u64 ((x * y / 18446744073709551616 : Nat) : Int), .int .u64 ((x * y % 18446744073709551616 : Nat) : Int)]) ∧ w' = w := Any.bits_Mul64 Tryz.lays264 x y hx hy w
def Tryz.lays212_ren : Go.Shelf.Ren := ⟨fun | 212 => 152 | 263 => 167 | 264 => 168 | n => n, fun | 46 => 172 | 51 => 94 | 146 => 168 | 53 => 129 | 148 => 204 | n => n, fun | n => n⟩
theorem Tryz.lays212 : Go.Proofs.Lays.n212 Tryz.prog Tryz.lays212_ren := {
  mixed := by kernel_rfl
  f212 := Tryz.func152.trans (congrArg some (by kernel_rfl))
  f263 := Tryz.func167.trans (congrArg some (by kernel_rfl))
  f264 := Tryz.func168.trans (congrArg some (by kernel_rfl))
  t46 := Tryz.underlying172
  a46 := Tryz.isAgg172
  z46 := Tryz.sizeOf172
  v46 := Tryz.zeroValue172
  t51 := Tryz.underlying94
  a51 := Tryz.isAgg94
  z51 := Tryz.sizeOf94
  v51 := Tryz.zeroValue94
  t53 := Tryz.underlying129
  a53 := Tryz.isAgg129
  z53 := Tryz.sizeOf129
  v53 := Tryz.zeroValue129
  t146 := Tryz.underlying168
  a146 := Tryz.isAgg168
  z146 := Tryz.sizeOf168
  v146 := Tryz.zeroValue168
  t148 := Tryz.underlying204
  a148 := Tryz.isAgg204
  z148 := Tryz.sizeOf204
  v148 := Tryz.zeroValue204 }
open Go.RowKit Go.Lib in
theorem Tryz.bits_Mul (x y : Nat) (hx : x < 18446744073709551616) (hy : y < 18446744073709551616) (w : World) :
    Calls Tryz.prog 152 #[.int .u64 x, .int .u64 y] w fun e w' => e = .returned (.tuple #[.int .u64 ((x * y / 18446744073709551616 : Nat) : Int), .int .u64 ((x * y % 18446744073709551616 : Nat) : Int)]) ∧ w' = w := Any.bits_Mul Tryz.lays212 x y hx hy w
def Tryz.lays108_ren : Go.Shelf.Ren := ⟨fun | 108 => 154 | n => n, fun | 28 => 22 | 3 => 3 | 0 => 0 | 4 => 4 | n => n, fun | n => n⟩
theorem Tryz.lays108 : Go.Proofs.Lays.n108 Tryz.prog Tryz.lays108_ren := {
  mixed := by kernel_rfl
  f108 := Tryz.func154.trans (congrArg some (by kernel_rfl))
  t0 := Tryz.underlying0
  a0 := Tryz.isAgg0
  z0 := Tryz.sizeOf0
  v0 := Tryz.zeroValue0
  t3 := Tryz.underlying3
  a3 := Tryz.isAgg3
  z3 := Tryz.sizeOf3
  v3 := Tryz.zeroValue3
  t4 := Tryz.underlying4
  a4 := Tryz.isAgg4
  z4 := Tryz.sizeOf4
  v4 := Tryz.zeroValue4
  t28 := Tryz.underlying22
  a28 := Tryz.isAgg22
  z28 := Tryz.sizeOf22
  v28 := Tryz.zeroValue22 }
open Go.Lib in
theorem Tryz.slices_Index_int (b off n c : Nat) (zs : List Int) (x : Int) (w : World) (hz : n ≤ zs.length) (hbig : n ≤ 9223372036854775807) (hc : ∀ j, j < zs.length → w.cell? ⟨b, off + j, none⟩ = some (.int .i64 (zs.getD j 0))) :
    Calls Tryz.prog 154 #[.slice (some ⟨b, off, none⟩) n c, .int .i64 x] w fun e w' => e = .returned (.int .i64 (Lib.idxOf (zs.take n) x)) ∧ w' = w := Any.slices_Index_int Tryz.lays108 b off n c zs x w hz hbig hc
open Go.Lib in
theorem Tryz.slices_Index_int_empty (a : Option Addr) (c : Nat) (x : Int) (w : World) :
    Calls Tryz.prog 154 #[.slice a 0 c, .int .i64 x] w fun e w' => e = .returned (.int .i64 (Lib.idxOf [] x)) ∧ w' = w := Any.slices_Index_int_empty Tryz.lays108 a c x w
def Tryz.lays112_ren : Go.Shelf.Ren := ⟨fun | 112 => 122 | n => n, fun | 28 => 22 | 3 => 3 | 4 => 4 | 0 => 0 | n => n, fun | n => n⟩
theorem Tryz.lays112 : Go.Proofs.Lays.n112 Tryz.prog Tryz.lays112_ren := {
  mixed := by kernel_rfl
  f112 := Tryz.func122.trans (congrArg some (by kernel_rfl))
  t0 := Tryz.underlying0
  a0 := Tryz.isAgg0
  z0 := Tryz.sizeOf0
  v0 := Tryz.zeroValue0
  t3 := Tryz.underlying3
  a3 := Tryz.isAgg3
  z3 := Tryz.sizeOf3
  v3 := Tryz.zeroValue3
  t4 := Tryz.underlying4
  a4 := Tryz.isAgg4
  z4 := Tryz.sizeOf4
  v4 := Tryz.zeroValue4
  t28 := Tryz.underlying22
  a28 := Tryz.isAgg22
  z28 := Tryz.sizeOf22
  v28 := Tryz.zeroValue22 }
open Go.RowKit Go.Lib Go.Sort in
theorem Tryz.slices_Reverse_int_arr (blk off cap : Nat) (d : Array Int) (w : World) (hH : Holds encI w blk off d) (hsz : d.size ≤ 9223372036854775807) :
    Calls Tryz.prog 122 #[.slice (some ⟨blk, off, none⟩) d.size cap] w fun e w' => e = .returned (.tuple #[]) ∧ ∃ n, w' = putRow encI (Sort.ahead w n) blk off d.reverse := Any.slices_Reverse_int_arr Tryz.lays112 blk off cap d w hH hsz
open Go.RowKit Go.Lib Go.Sort in
theorem Tryz.slices_Reverse_int (blk off cap : Nat) (zs : List Int) (w : World) (hH : Holds (Value.int .i64) w blk off zs.toArray) (hsz : zs.length ≤ 9223372036854775807) :
    Calls Tryz.prog 122 #[.slice (some ⟨blk, off, none⟩) zs.length cap] w fun e w' => e = .returned (.tuple #[]) ∧ ∃ n, w' = putRow (Value.int .i64) (Sort.ahead w n) blk off zs.reverse.toArray := Any.slices_Reverse_int Tryz.lays112 blk off cap zs w hH hsz
open Go.RowKit Go.Lib Go.Sort in
theorem Tryz.slices_Reverse_int_empty (a : Option Addr) (cap : Nat) (w : World) :
    Calls Tryz.prog 122 #[.slice a 0 cap] w fun e w' => e = .returned (.tuple #[]) ∧ w' = w := Any.slices_Reverse_int_empty Tryz.lays112 a cap w
def Tryz.lays111_ren : Go.Shelf.Ren := ⟨fun | 111 => 113 | n => n, fun | 28 => 22 | 3 => 3 | 4 => 4 | 0 => 0 | n => n, fun | n => n⟩
theorem Tryz.lays111 : Go.Proofs.Lays.n111 Tryz.prog Tryz.lays111_ren := {
  mixed := by kernel_rfl
  f111 := Tryz.func113.trans (congrArg some (by kernel_rfl))
  t0 := Tryz.underlying0
  a0 := Tryz.isAgg0
  z0 := Tryz.sizeOf0
  v0 := Tryz.zeroValue0
  t3 := Tryz.underlying3
  a3 := Tryz.isAgg3
  z3 := Tryz.sizeOf3
  v3 := Tryz.zeroValue3
  t4 := Tryz.underlying4
  a4 := Tryz.isAgg4
  z4 := Tryz.sizeOf4
  v4 := Tryz.zeroValue4
  t28 := Tryz.underlying22
  a28 := Tryz.isAgg22
  z28 := Tryz.sizeOf22
  v28 := Tryz.zeroValue22 }
open Go.RowKit Go.Lib in
theorem Tryz.slices_Equal_int (b1 o1 n c b2 o2 m d : Nat) (xs ys : List Int) (w : World) (hx : n ≤ xs.length) (hy : m ≤ ys.length) (hbig : n ≤ 9223372036854775807) (hbig2 : m ≤ 9223372036854775807) (hc1 : ∀ j, j < xs.length → w.cell? ⟨b1, o1 + j, none⟩ = some (.int .i64 (xs.getD j 0))) (hc2 : ∀ j, j < ys.length → w.cell? ⟨b2, o2 + j, none⟩ = some (.int .i64 (ys.getD j 0))) :
    Calls Tryz.prog 113 #[.slice (some ⟨b1, o1, none⟩) n c, .slice (some ⟨b2, o2, none⟩) m d] w fun e w' => e = .returned (.bool (xs.take n == ys.take m)) ∧ ∃ q, w' = w.drewN q := Any.slices_Equal_int Tryz.lays111 b1 o1 n c b2 o2 m d xs ys w hx hy hbig hbig2 hc1 hc2
open Go.RowKit Go.Lib in
theorem Tryz.slices_Equal_int_empty (a1 a2 : Option Addr) (c m d : Nat) (w : World) (hbig2 : m ≤ 9223372036854775807) :
    Calls Tryz.prog 113 #[.slice a1 0 c, .slice a2 m d] w fun e w' => e = .returned (.bool (decide (m = 0))) ∧ w' = w := Any.slices_Equal_int_empty Tryz.lays111 a1 a2 c m d w hbig2
def Tryz.laysNm215_ren : Go.Shelf.Ren := ⟨fun | 15 => 109 | n => n, fun | 22 => 22 | 3 => 3 | 4 => 4 | n => n, fun | n => n⟩
theorem Tryz.laysNm215 : Go.Proofs.Lays2.n15 Tryz.prog Tryz.laysNm215_ren := {
  mixed := by kernel_rfl
  f15 := Tryz.func109.trans (congrArg some (by kernel_rfl))
  t3 := Tryz.underlying3
  a3 := Tryz.isAgg3
  z3 := Tryz.sizeOf3
  v3 := Tryz.zeroValue3
  t4 := Tryz.underlying4
  a4 := Tryz.isAgg4
  z4 := Tryz.sizeOf4
  v4 := Tryz.zeroValue4
  t22 := Tryz.underlying22
  a22 := Tryz.isAgg22
  z22 := Tryz.sizeOf22
  v22 := Tryz.zeroValue22
  i3 := by kernel_rfl }
open Go.RowKit Go.Lib in
theorem Tryz.slices_Clone_int (b off n c : Nat) (zs : List Int) (w : World) (hz : n ≤ zs.length) (hbig : n * 8 ≤ 140737488355328) (hc : ∀ j, j < zs.length → w.cell? ⟨b, off + j, none⟩ = some (.int .i64 (zs.getD j 0))) :
    Calls Tryz.prog 109 #[.slice (some ⟨b, off, none⟩) n c] w fun e w' => ∃ v', e = .returned v' ∧ w'.ownsRow w.heap.size 3 1 v' n ((zs.take n).map (Value.int .i64)) ∧ v' ≠ .slice none 0 0 ∧ Below w.heap.size w w' := Any.slices_Clone_int Tryz.laysNm215 b off n c zs w hz hbig hc
open Go.RowKit Go.Lib in
theorem Tryz.slices_Clone_int_nil (n c : Nat) (w : World) :
    Calls Tryz.prog 109 #[.slice none n c] w fun e w' => e = .returned (.slice none 0 0) ∧ w' = w := Any.slices_Clone_int_nil Tryz.laysNm215 n c w
open Go.RowKit Go.Lib in
theorem Tryz.slices_Clone_int_zero (a : Addr) (c : Nat) (w : World) :
    Calls Tryz.prog 109 #[.slice (some a) 0 c] w fun e w' => ∃ v', e = .returned v' ∧ w'.ownsRow w.heap.size 3 1 v' 0 [] ∧ v' ≠ .slice none 0 0 ∧ Below w.heap.size w w' := Any.slices_Clone_int_zero Tryz.laysNm215 a c w
open Go.RowKit Go.Lib Go.Sort in
theorem Tryz.slices_Reverse_int_cells (b off n c : Nat) (zs : List Int) (w : World) (hz : n ≤ zs.length) (hbig : n ≤ 9223372036854775807) (hc : ∀ j, j < zs.length → w.cell? ⟨b, off + j, none⟩ = some (.int .i64 (zs.getD j 0))) (hf : ∀ j, j < n → w.frozen? ⟨b, off + j, none⟩ = false) :
    Calls Tryz.prog 122 #[.slice (some ⟨b, off, none⟩) n c] w fun e w' => e = .returned (.tuple #[]) ∧ ∃ q, w' = (w.drewN q).setCells b off ((zs.take n).reverse.map (Value.int .i64)) := Any.slices_Reverse_int_cells Tryz.lays112 b off n c zs w hz hbig hc hf
open Go.RowKit Go.Lib in
theorem Tryz.slices_Equal_int_lens (a1 a2 : Option Addr) (n c m d : Nat) (w : World) (hnm : n ≠ m) :
    Calls Tryz.prog 113 #[.slice a1 n c, .slice a2 m d] w fun e w' => e = .returned (.bool false) ∧ w' = w := Any.slices_Equal_int_lens Tryz.lays111 a1 a2 n c m d w hnm
end Go.Proofs
end
section
namespace Go.Proofs.YtgdjnohhofbcnaaGreatDoor
open Go.RowKit WordM

theorem sizeI : (Tryz.prog.info? 3).map (·.size) = some 1 := by kernel_rfl
theorem mulU (L m T : Nat) (hT : L * m = T) (hT2 : T ≤ 4611686018427387904) (hL : L < 18446744073709551616) (hm : m < 18446744073709551616) (w : World) :
    Calls Tryz.prog 152 #[.int .u64 (L : Int), .int .u64 (m : Int)] w fun e w' => e = .returned (.tuple #[.int .u64 0, .int .u64 (T : Int)]) ∧ w = w' := by
  refine (Tryz.bits_Mul L m hL hm w).mono fun e w' ⟨h1, h2⟩ => ⟨?_, h2.symm⟩
  rw [h1, hT, Nat.div_eq_of_lt (by omega), Nat.mod_eq_of_lt (by omega)]
  rfl
theorem cI_one {l : List Int} {v : Value} (h : v ∈ cI l) : v.oneCell' = true := by
  unfold cI at h
  obtain ⟨x, _, rfl⟩ := List.mem_map.1 h
  rfl
/-- the first k of them, the rest 0 -/
def fillW (X : List Int) (k : Nat) : List Int := X.take k ++ List.replicate (X.length - k) 0
theorem fillW_length {X : List Int} {k : Nat} (hk : k ≤ X.length) : (fillW X k).length = X.length := by simp [fillW]; omega
theorem fillW_zero (X : List Int) : fillW X 0 = List.replicate X.length 0 := by simp [fillW]
theorem fillW_all (X : List Int) : fillW X X.length = X := by simp [fillW]
theorem splice_fill {X cs : List Int} {k : Nat} (hk : k + cs.length ≤ X.length) (hcs : ∀ j, j < cs.length → cs[j]? = X[k + j]?) : splice (cI (fillW X k)) k (cI cs) = cI (fillW X (k + cs.length)) := by
  have e : cs = (X.drop k).take cs.length := by
    apply List.ext_getElem?
    intro j
    rw [List.getElem?_take, List.getElem?_drop]
    by_cases hj : j < cs.length
    · rw [if_pos hj, hcs j hj]
    · rw [if_neg hj, List.getElem?_eq_none (by omega)]
  have e2 : X.take (k + cs.length) = X.take k ++ cs := by
    rw [List.take_add]
    congr 1
    exact e.symm
  unfold splice fillW
  rw [e2]
  simp only [cI_app]
  have hl : (cI (X.take k)).length = k := by rw [cI_length, List.length_take]; omega
  rw [List.take_append_of_le_length (by rw [hl]; exact Nat.le_refl _), List.take_of_length_le (by rw [hl]; exact Nat.le_refl _), cI_length, List.drop_append, hl]
  have h0 : (cI (X.take k)).drop (k + cs.length) = [] := List.drop_eq_nil_of_le (by omega)
  rw [h0, List.nil_append, List.append_assoc]
  congr 2
  unfold cI
  rw [← List.map_drop, List.drop_replicate]
  congr 2
  omega
theorem times_shift {l : List Int} {m k j : Nat} (hd : l.length ∣ k) (hj : k + j < m * l.length) : (timesW l m)[j]? = (timesW l m)[k + j]? := by
  rw [timesW_get l m _ hj, timesW_get l m _ (by omega)]
  congr 1
  obtain ⟨q, rfl⟩ := hd
  unfold F
  rw [Nat.mul_add_mod]
theorem times_front {l : List Int} {m j : Nat} (hj : j < l.length) (hm : 1 ≤ m) : l[j]? = (timesW l m)[0 + j]? := by
  rw [Nat.zero_add, timesW_get l m _ (by have := Nat.mul_le_mul_right l.length hm; omega), F_get hj]
/-- block g is a whole list of ints -/
def BlockI (w : World) (g : Nat) (l : List Int) : Prop := w.heap[g]? = some (.cells (cI l).toArray 3 (0, 0))
theorem BlockI.eq {w : World} {g : Nat} {l : List Int} (h : BlockI w g l) : w.heap[g]? = some (.cells (cI l).toArray 3 (0, 0)) := h
theorem BlockI.cell {w : World} {g : Nat} {l : List Int} (h : BlockI w g l) {j : Nat} {x : Int} (hx : l[j]? = some x) : w.cell? ⟨g, j, none⟩ = some (.int .i64 x) := by
  rw [cell_of_row w g j _ _ _ h, List.getElem?_toArray]
  exact cI_get hx
def RepRel (w : World) (l X : List Int) (g : Nat) (v : Value) (wr : World) : Prop :=
  ∃ k : Nat, k ≤ X.length ∧ (0 < X.length → 0 < k) ∧ l.length ∣ k ∧ v = .int .i64 (k : Int) ∧ BlockI wr g (fillW X k) ∧ Below w.heap.size w wr

set_option maxRecDepth 100000 in
set_option maxHeartbeats 4000000 in
theorem repeatI (p : Option Addr) (n c m : Nat) (l : List Int) (w : World) (hn : n = l.length) (h : IntV w.heap.size w p c l) (hm : m ≤ 9223372036854775807) (hT : n * m ≤ 1000000) :
    Calls Tryz.prog 121 #[.slice p n c, .int .i64 (m : Int)] w (IntPost w (timesW l m)) := by
  have hle := h.le
  have hcap := h.cap
  unfold maxLen at hcap
  have hnc : n ≤ c := by omega
  obtain ⟨T, hTe⟩ : ∃ T, n * m = T := ⟨_, rfl⟩
  have hTl : T ≤ 1000000 := by omega
  have hX : (timesW l m).length = T := by rw [timesW_length, ← hn, Nat.mul_comm]; exact hTe
  have hmul := mulU n m T hTe (by omega) (by omega) (by omega) w
  have H := Lib.hid (And.intro h (And.intro hn (And.intro hTe hX)))
  have hmk := makeI T (by omega) w
  have HM := Lib.hid hmul
  have hd1 : decide ((m : Int) < 0) = false := by rw [decide_eq_false_iff_not]; omega
  have hd2 : decide ((9223372036854775807 : Int) < (T : Int)) = false := by rw [decide_eq_false_iff_not]; omega
  clear h hn hT hTe hX hmul hle
  go_enter Tryz.func121, Tryz.ntmps121
  go_wp2_with fail
  refine HM.out.mono ?_
  rintro e w' ⟨rfl, rfl⟩
  have hB1 : Below w.heap.size w (w.alloc (.cells (madeCells #[.int .i64 0] T) 3)) := (Below.refl _ _).alloc (Nat.le_refl _) _
  have HB1 := Lib.hid hB1
  have hh : BlockI (w.alloc (.cells (madeCells #[.int .i64 0] T) 3)) w.heap.size (fillW (timesW l m) 0) := by
    unfold BlockI
    rw [heap_newN, fillW_zero, H.out.2.2.2]
    congr 2
    rw [← Array.toList_inj, madeI_list, List.toList_toArray]
    unfold cI
    rw [List.map_replicate]
  have HHH := Lib.hid hh
  obtain ⟨k0, hk0⟩ : ∃ k0, k0 = Nat.min n T := ⟨_, rfl⟩
  have hk0c : k0 = 0 ∧ T = 0 ∨ k0 = n ∧ 1 ≤ m := by
    rcases Nat.eq_zero_or_pos m with h0 | h0
    · left
      have : T = 0 := by rw [← H.out.2.2.1, h0, Nat.mul_zero]
      exact ⟨by rw [hk0, this]; exact Nat.min_eq_right (Nat.zero_le _), this⟩
    · right
      refine ⟨?_, h0⟩
      have : n * 1 ≤ n * m := Nat.mul_le_mul_left _ h0
      rw [hk0]
      exact Nat.min_eq_left (by have := H.out.2.2.1; omega)
  have HK := Lib.hid (And.intro hk0 hk0c)
  have hk0n : k0 ≤ n := by rw [hk0]; exact Nat.min_le_left _ _
  have hk0T : k0 ≤ T := by rw [hk0]; exact Nat.min_le_right _ _
  clear hB1 hh hk0 hk0c
  have hh1 : ¬ ((0 : Int) < 0) := by omega
  go_wp2_with (with_reducible refine wpList_copy_splice rfl (.tmp 31) (.tmp 32) 22 22 rfl 3 Tryz.underlying22 sizeI (some ⟨w.heap.size, 0, none⟩) p T T n c rfl rfl w.heap.size 0 (cI (fillW (timesW l m) 0)) 3 (BlockI.eq HHH.out) (cI (l.take k0)) ?k1 ?k2 ?k3 ?k4 w.heap.size w HB1.out (Nat.le_refl _) ?_)
  case k1 => rw [cI_length, List.length_take, ← H.out.2.1, Nat.min_eq_left hk0n]; exact HK.out.1
  case k2 =>
    intro hpos
    rw [cI_length, List.length_take] at hpos
    obtain ⟨b, off, rfl, hb, hc⟩ := H.out.1.cell (by rintro rfl; simp at hpos)
    refine ⟨_, rfl, fun j v hv => ?_⟩
    rw [add_off]
    unfold cI at hv
    rw [List.getElem?_map] at hv
    obtain ⟨x, hx, rfl⟩ := Option.map_eq_some_iff.1 hv
    rw [List.getElem?_take] at hx
    split at hx
    · exact (HB1.out.cell (p := ⟨b, off + j, none⟩) hb).trans (hc j x hx)
    · cases hx
  case k3 => rw [cI_length, cI_length, List.length_take, fillW_length (Nat.zero_le _), H.out.2.2.2]; have := H.out.2.1; omega
  case k4 =>
    intro v hv
    unfold cI at hv
    obtain ⟨x, _, rfl⟩ := List.mem_map.1 hv
    rfl
  intro w1 hw1 hb1
  have hlk : (l.take k0).length = k0 := by rw [List.length_take, ← H.out.2.1]; omega
  have hlk2 : (cI (l.take k0)).length = k0 := by rw [cI_length, hlk]
  have hw2 : BlockI w1 w.heap.size (fillW (timesW l m) k0) := by
    have h := hw1.out
    rw [splice_fill (X := timesW l m) (k := 0) (cs := l.take k0) (by rw [hlk, H.out.2.2.2]; omega) (fun j hj => ?_), hlk, Nat.zero_add] at h
    · exact h
    · rw [hlk] at hj
      rw [List.getElem?_take, if_pos hj]
      rcases HK.out.2 with ⟨h1, _⟩ | ⟨h1, h2⟩
      · omega
      · exact times_front (by have := H.out.2.1; omega) h2
  have HW := Lib.hid (And.intro hw2 hb1)
  clear hw1 hb1 hlk hw2 hmk HB1 HHH
  rw [hlk2]
  clear hlk2
  go_wp2_with fail
  go_loopw [8] (fun v wr => RepRel w l (timesW l m) w.heap.size v wr) (fun v _ => T - (intOf v).toNat)
  case atStart =>
    refine ⟨k0, by rw [H.out.2.2.2]; exact hk0T, ?_, ?_, rfl, HW.out.1, HW.out.2⟩
    · intro hpos
      rw [H.out.2.2.2] at hpos
      rcases HK.out.2 with ⟨h1, h2⟩ | ⟨h1, h2⟩
      · omega
      · rcases Nat.eq_zero_or_pos n with h3 | h3
        · have := H.out.2.2.1; rw [h3, Nat.zero_mul] at this; omega
        · omega
    · rcases HK.out.2 with ⟨h1, h2⟩ | ⟨h1, h2⟩
      · rw [h1]; exact ⟨0, rfl⟩
      · rw [h1, H.out.2.1]; exact Nat.dvd_refl _
  case round =>
    obtain ⟨k, hk, hk0, hd, rfl, hbl, hb⟩ := hrel
    have hkT : k ≤ T := by rw [H.out.2.2.2] at hk; exact hk
    by_cases hlt : k < T
    · have hkp : 0 < k := hk0 (by rw [H.out.2.2.2]; omega)
      have HR := Lib.hid (And.intro hd (And.intro hbl hb))
      have hkX : ∃ kk, kk = Nat.min k (T - k) := ⟨_, rfl⟩
      obtain ⟨kk, hkk⟩ := hkX
      have hkk1 : kk ≤ k := by rw [hkk]; exact Nat.min_le_left _ _
      have hkk2 : k + kk ≤ T := by have : kk ≤ T - k := by rw [hkk]; exact Nat.min_le_right _ _
                                   omega
      have hkk3 : 0 < kk := by rw [hkk]; exact Nat.lt_min.2 ⟨hkp, by omega⟩
      have hkk4 : k + kk = T ∨ kk = k := by
        rcases Nat.le_total k (T - k) with h1 | h1
        · right; rw [hkk]; exact Nat.min_eq_left h1
        · left; have : kk = T - k := by rw [hkk]; exact Nat.min_eq_right h1
          omega
      have hcl : (cI ((timesW l m).take kk)).length = kk := by rw [cI_length, List.length_take, H.out.2.2.2]; omega
      have hcl2 : ((timesW l m).take kk).length = kk := by rw [← cI_length, hcl]
      have hspl : splice (cI (fillW (timesW l m) k)) k (cI ((timesW l m).take kk)) = cI (fillW (timesW l m) (k + kk)) := by
        have := splice_fill (X := timesW l m) (k := k) (cs := (timesW l m).take kk) (by rw [hcl2, H.out.2.2.2]; exact hkk2) (fun j hj => by
          rw [hcl2] at hj
          rw [List.getElem?_take, if_pos hj]
          exact times_shift HR.out.1 (by rw [← timesW_length, H.out.2.2.2]; omega))
        rwa [hcl2] at this
      have hsrc : ∀ j v, (cI ((timesW l m).take kk))[j]? = some v → wr.cell? ⟨w.heap.size, j, none⟩ = some v := fun j v hv => by
        unfold cI at hv
        rw [List.getElem?_map] at hv
        obtain ⟨x, hx, rfl⟩ := Option.map_eq_some_iff.1 hv
        rw [List.getElem?_take] at hx
        split at hx
        · rename_i hj
          refine HR.out.2.1.cell ?_
          unfold fillW
          rw [List.getElem?_append_left (by rw [List.length_take, H.out.2.2.2]; omega), List.getElem?_take, if_pos (by omega)]
          exact hx
        · cases hx
      have hlenf : (cI (fillW (timesW l m) k)).length = T := by rw [cI_length, fillW_length (by rw [H.out.2.2.2]; exact hkT), H.out.2.2.2]
      have HZ := Lib.hid (And.intro hcl (And.intro hspl (And.intro hsrc (And.intro hlenf hkk))))
      have hi0 : (0 : Int) ≤ (k : Int) := by omega
      have hi1 : (k : Int) ≤ (T : Int) := by omega
      have hkT2 : ¬ T = k := by omega
      have hwk : IntKind.i64.wrap ((k : Int) + (kk : Int)) = (k : Int) + (kk : Int) := by rw [IntWalk.i64_in _ (by omega)]
      clear hd hbl hb hk0 hk hcl hcl2 hspl hsrc hlenf hkk
      go_wp2_with fail
      go_region_law ((refine step_copy_splice rfl (.tmp 41) (.tmp 44) 22 22 rfl 3 Tryz.underlying22 sizeI (some ⟨w.heap.size, k, none⟩) (some ⟨w.heap.size, 0, none⟩) (T - k) (T - k) k T (by simp [Act.eval, Act.put]) (by simp [Act.eval, Act.put]) w.heap.size k (cI (fillW (timesW l m) k)) 3 (BlockI.eq HR.out.2.1) (cI ((timesW l m).take kk)) (by rw [HZ.out.1]; exact HZ.out.2.2.2.2) (fun _ => ⟨rfl, _, rfl, fun j v hv => by rw [add_off, Nat.zero_add]; exact HZ.out.2.2.1 j v hv⟩) (by rw [HZ.out.1, HZ.out.2.2.2.1]; exact hkk2) (fun v hv => cI_one hv) w.heap.size w (by repeat' (first | exact HR.out.2.2 | refine Below.drew ?_ | refine below_drewN ?_ _)) (Nat.le_refl _) ?_; intro w2 hw2 hb2))
      all_goals
        have hbk : BlockI w2 w.heap.size (fillW (timesW l m) (k + kk)) := by
          have h := hw2.out
          rw [HZ.out.2.1] at h
          exact h
        have HF := Lib.hid (And.intro hbk hb2)
        clear hw2 hb2 hbk
        rw [HZ.out.1]
        simp only [List.getElem_toArray, List.getElem_cons_succ, List.getElem_cons_zero, hwk]
        go_frame
        go_wp2_with fail
        go_roundw
        case rel =>
          refine ⟨k + kk, by rw [H.out.2.2.2]; exact hkk2, fun _ => by omega, ?_, by go_num, HF.out.1, HF.out.2⟩
          rcases hkk4 with h1 | h1
          · rw [h1, ← H.out.2.2.2, timesW_length]
            exact Nat.dvd_mul_left _ _
          · rw [h1]
            exact Nat.dvd_add HR.out.1 HR.out.1
        case measure => simp [intOf]; omega
    · obtain rfl : k = T := by omega
      have he : fillW (timesW l m) k = timesW l m := by rw [← H.out.2.2.2, fillW_all]
      rw [he] at hbl
      have hO := IntO.of_block (base := w.heap.size) (Nat.le_refl _) (by rw [H.out.2.2.2]; unfold maxLen; omega) hbl
      rw [H.out.2.2.2] at hO
      have HF := Lib.hid (And.intro hO hb)
      clear hd hbl hb hk0 hk he hO
      go_wp2_with fail
      go_ret
      exact ⟨_, _, by rw [H.out.2.2.2]; rfl, HF.out.1, HF.out.2⟩
end Go.Proofs.YtgdjnohhofbcnaaGreatDoor
end
section
namespace Go.Proofs.YtgdjnohhofbcnaaGreatDoor
open Go.RowKit Go.Extern.Stop Go.Stop Go.Extern WordM NatM

set_option maxRecDepth 100000 in
set_option maxHeartbeats 4000000 in
theorem times_ok (p : Option Addr) (n c m : Nat) (l : List Int) (w : World) (hn : n = l.length) (h : IntV w.heap.size w p c l) (hm : m ≤ 9223372036854775807) (hT : n = 0 ∨ m ≤ 4096 / n) :
    Calls Tryz.prog 61 #[.slice p n c, .int .i64 (m : Int)] w (IntOk w (timesW l m)) := by
  have hle := h.le
  have hcap := h.cap
  unfold maxLen at hcap
  have hnm : n * m ≤ 1000000 := by
    rcases hT with h0 | h0
    · rw [h0, Nat.zero_mul]; omega
    · have := Nat.mul_le_mul_left n h0
      have := Nat.mul_div_le 4096 n
      omega
  have hrep := repeatI p n c m l w hn h hm hnm
  have HR := Lib.hid hrep
  clear hrep h hn hle hnm
  rcases Nat.eq_zero_or_pos n with h0 | h0
  · subst h0
    have hd0 : decide ((0 : Int) < 0) = false := by decide
    go_enter Tryz.func61, Tryz.ntmps61
    go_wp2_with fail
    refine HR.out.mono ?_
    rintro e w1 ⟨p1, c1, rfl, ho1, hb1⟩
    have HO := Lib.hid (And.intro ho1 hb1)
    clear ho1 hb1
    go_wp2_with fail
    go_ret2
    exact ⟨p1, c1, rfl, HO.out.1, HO.out.2⟩
  · have hmq : m ≤ 4096 / n := by omega
    obtain ⟨q, hq⟩ : ∃ q, 4096 / n = q := ⟨_, rfl⟩
    have hq4 : q ≤ 4096 := by rw [← hq]; exact Nat.div_le_self _ _
    have hqi : (4096 : Int) / (n : Int) = (q : Int) := by rw [← hq]; rfl
    have hqi2 : (4096 : Int).tdiv (n : Int) = (q : Int) := by rw [Int.tdiv_eq_ediv_of_nonneg (by omega), hqi]
    have hmq2 : ¬ ((q : Int) < (m : Int)) := by omega
    have hmq3 : decide ((q : Int) < (m : Int)) = false := by rw [decide_eq_false_iff_not]; omega
    have hmq4 : decide (q < m) = false := by rw [decide_eq_false_iff_not]; omega
    have hn0 : ¬ ((n : Int) == 0) = true := by rw [beq_iff_eq]; omega
    clear hq hT hmq
    go_enter Tryz.func61, Tryz.ntmps61
    go_wp2_with fail
    refine HR.out.mono ?_
    rintro e w1 ⟨p1, c1, rfl, ho1, hb1⟩
    have HO := Lib.hid (And.intro ho1 hb1)
    clear ho1 hb1
    go_wp2_with fail
    go_ret2
    exact ⟨p1, c1, rfl, HO.out.1, HO.out.2⟩
set_option maxRecDepth 100000 in
theorem times_neg (p : Option Addr) (n c : Nat) (z : Int) (w : World) (A : Nat → Addr) (hr : Roots w A) (hz : z < 0) :
    Calls Tryz.prog 61 #[.slice p n c, .int .i64 z] w (Err2 w A wordOp 0 3 (.slice none 0 0)) := by
  have HR := Lib.hid hr
  clear hr
  go_enter Tryz.func61, Tryz.ntmps61
  go_wp2_with fail
  refine (new_at wordOp 0 3 _ A HR.out (by omega)).mono ?_
  rintro e w1 ⟨b, rfl, hl1, hb1⟩
  have H := Lib.hid (And.intro hl1 hb1)
  clear hl1 hb1
  go_wp2_with fail
  go_ret2
  exact ⟨_, rfl, H.out.1, H.out.2⟩
set_option maxRecDepth 100000 in
theorem times_big (p : Option Addr) (n c m : Nat) (w : World) (A : Nat → Addr) (hr : Roots w A) (hn : n ≤ 9223372036854775807) (h0 : 0 < n) (hm : 4096 / n < m) :
    Calls Tryz.prog 61 #[.slice p n c, .int .i64 (m : Int)] w (Err2 w A wordOp 0 4 (.slice none 0 0)) := by
  have HR := Lib.hid hr
  obtain ⟨q, hq⟩ : ∃ q, 4096 / n = q := ⟨_, rfl⟩
  have hq4 : q ≤ 4096 := by rw [← hq]; exact Nat.div_le_self _ _
  have hqi : (4096 : Int) / (n : Int) = (q : Int) := by rw [← hq]; rfl
  have hqi2 : (4096 : Int).tdiv (n : Int) = (q : Int) := by rw [Int.tdiv_eq_ediv_of_nonneg (by omega), hqi]
  have hmq2 : ((q : Int) < (m : Int)) := by omega
  have hmq4 : decide (q < m) = true := by rw [decide_eq_true_iff]; omega
  clear hr hq hm
  go_enter Tryz.func61, Tryz.ntmps61
  go_wp2_with fail
  refine (new_at wordOp 0 4 _ A HR.out (by omega)).mono ?_
  rintro e w1 ⟨b, rfl, hl1, hb1⟩
  have H := Lib.hid (And.intro hl1 hb1)
  clear hl1 hb1
  go_wp2_with fail
  go_ret2
  exact ⟨_, rfl, H.out.1, H.out.2⟩
end Go.Proofs.YtgdjnohhofbcnaaGreatDoor
end
section
namespace Go.Proofs.YtgdjnohhofbcnaaGreatDoor
open Go.RowKit Go.Extern.Stop Go.Stop Go.Extern WordM NatM

/-- a number and no error, both new -/
def NumOk (w : World) (n : Nat) (e : Ending) (w' : World) : Prop :=
  ∃ p c, e = .returned (.tuple #[.slice p (D32 n).length c, .nilIface]) ∧ NatO w.heap.size w' p c (D32 n) ∧ Below w.heap.size w w'
theorem valW_len {k : Nat} {l : List Int} (h4 : k ≤ 4) (h : okW k l) : (D32 (valW k l)).length ≤ l.length := by
  apply D32_len
  exact Nat.lt_of_lt_of_le (valW_lt h) (Nat.pow_le_pow_left (by omega) _)
theorem valW_take {k : Nat} {l : List Int} {j : Nat} {x : Int} (h : l[j]? = some x) : valW k (l.take (j + 1)) = valW k (l.take j) * k + x.toNat := by
  rw [List.take_add_one, h]
  exact valW_snoc k _ x
def IndexRel (w : World) (k : Nat) (l : List Int) (v8 v26 : Value) (wr : World) : Prop :=
  ∃ (j : Nat) (p : Option Addr) (c : Nat), j ≤ l.length ∧ v26 = .int .i64 (j : Int) ∧ v8 = .slice p (D32 (valW k (l.take j))).length c ∧ NatO w.heap.size wr p c (D32 (valW k (l.take j))) ∧ Below w.heap.size w wr
set_option maxRecDepth 100000 in
set_option maxHeartbeats 4000000 in
theorem index_ok (k : Nat) (p : Option Addr) (n c : Nat) (l : List Int) (w : World) (hn : n = l.length) (h : IntV w.heap.size w p c l) (hc : chkW k l = none) (h256 : n ≤ 256) :
    Calls Tryz.prog 53 #[.int .i64 (k : Int), .slice p n c] w (NumOk w (valW k l)) := by
  have hck := check_ok (k : Int) p n c l w hn h hc
  obtain ⟨k', hk', h1, h4, hl, ho⟩ := chkW_none hc
  obtain rfl : k = k' := by omega
  have hle := h.le
  have hcap := h.cap
  unfold maxLen at hcap
  have hnc : n ≤ c := by omega
  have H := Lib.hid (And.intro h (And.intro ho hn))
  have HCK := Lib.hid hck
  clear h hc hl ho hck hn hle hk'
  go_enter Tryz.func53, Tryz.ntmps53
  go_wp2_with fail
  refine HCK.out.mono ?_
  rintro e w1 ⟨rfl, hb1⟩
  have HB1 := Lib.hid hb1
  clear hb1
  go_wp2_with fail
  refine (from_any k w1 (by omega)).mono ?_
  rintro e w2 ⟨p7, c7, rfl, ho7, hb2⟩
  have hkl : (D32 k).length ≤ 100000 := by
    have := D32_len (n := k) (k := 1) (by omega)
    omega
  have HB2 := Lib.hid (And.intro (HB1.out.trans (hb2.mono HB1.out.size)) (And.intro ho7.toV hkl))
  clear hb2 ho7 hkl
  go_wp2_with fail
  go_loopw [8, 26] (fun v8 v26 wr => IndexRel w2 k l v8 v26 wr) (fun _ v _ => n - (intOf v).toNat)
  case atStart => exact ⟨0, none, 0, Nat.zero_le _, rfl, by rw [List.take_zero, show valW k [] = 0 from rfl, D32_nil.2 rfl]; rfl, by rw [List.take_zero, show valW k [] = 0 from rfl, D32_nil.2 rfl]; exact NatO.nothing _ _, Below.refl _ _⟩
  case round =>
    obtain ⟨j, q, cq, hj, rfl, rfl, hoq, hb⟩ := hrel
    have hjn : j ≤ n := by have := H.out.2.2; omega
    by_cases hlt : j < n
    · have hnl := H.out.2.2
      obtain ⟨b, off, rfl, hbb, hcc⟩ := ((H.out.1.next HB2.out.1).next hb).cell (by rintro rfl; simp at hnl; omega)
      obtain ⟨x, hx⟩ := getI (l := l) (k := j) (by omega)
      have hcx := hcc j x hx
      have hxo := H.out.2.1 x (List.mem_of_getElem? hx)
      obtain ⟨y, rfl⟩ : ∃ y : Nat, x = (y : Int) := ⟨x.toNat, by omega⟩
      have hst := valW_take (k := k) hx
      rw [Int.toNat_natCast] at hst
      have hvl := valW_len h4 (okW_take H.out.2.1 j)
      have hvl2 := valW_len h4 (okW_take H.out.2.1 (j + 1))
      rw [List.length_take] at hvl hvl2
      obtain ⟨v, hv⟩ : ∃ v, valW k (l.take j) = v := ⟨_, rfl⟩
      rw [hv] at hoq hst hvl ⊢
      have hmul := mul_any q p7 cq c7 (D32 v) (D32 k) wr hoq.toV (HB2.out.2.1.next hb) (by omega) HB2.out.2.2
      rw [V32_D32, V32_D32] at hmul
      have hy4 : y ≤ 4 := by omega
      have hvm : (D32 (v * k)).length ≤ 100000 := by
        have h1 : v * k ≤ v * k + y := Nat.le_add_right _ _
        rw [hst] at hvl2
        rcases Nat.lt_or_ge 100000 (D32 (v * k)).length with h2 | h2
        · have := cmp_len (m := v * k + y) (n := v * k) (by omega)
          omega
        · exact h2
      have HS := Lib.hid (And.intro hst (And.intro hb (And.intro hmul hvm)))
      clear hcc hx hxo hst hvl hvl2 hv hoq hb hmul hvm hnl
      go_wp2_with fail
      refine HS.out.2.2.1.mono ?_
      rintro e w3 ⟨p3, c3, rfl, ho3, hb3⟩
      have HM := Lib.hid (And.intro ho3 hb3)
      clear ho3 hb3
      go_wp2_with fail
      refine (from_any y w3 (by omega)).mono ?_
      rintro e w4 ⟨p4, c4, rfl, ho4, hb4⟩
      have hyl : (D32 y).length ≤ 100000 := by
        have := D32_len (n := y) (k := 1) (by omega)
        omega
      have hadd := add_any p3 p4 c3 c4 (D32 (v * k)) (D32 y) w4 (HM.out.1.toV.next hb4) ho4.toV HS.out.2.2.2 hyl
      rw [V32_D32, V32_D32] at hadd
      have HA := Lib.hid (And.intro hadd (HM.out.2.trans (hb4.mono HM.out.2.size)))
      clear ho4 hb4 hyl hadd
      go_wp2_with fail
      refine HA.out.1.mono ?_
      rintro e w5 ⟨p5, c5, rfl, ho5, hb5⟩
      have hbb5 : Below w2.heap.size w2 w5 := HS.out.2.1.trans ((HA.out.2.trans (hb5.mono HA.out.2.size)).mono HS.out.2.1.size)
      have ho5' : NatO w2.heap.size w5 p5 c5 (D32 (v * k + y)) := ho5.base (Nat.le_trans HS.out.2.1.size HA.out.2.size)
      have HF := Lib.hid (And.intro ho5' hbb5)
      clear ho5 ho5' hb5 hbb5
      go_wp2_with fail
      go_roundw
      case rel => exact ⟨j + 1, p5, c5, by have := H.out.2.2; omega, by go_num, by rw [HS.out.1], by rw [HS.out.1]; exact HF.out.1, HF.out.2⟩
      case measure => simp [intOf]; omega
    · obtain rfl : j = n := by omega
      have he : l.take j = l := by rw [H.out.2.2, List.take_length]
      rw [he] at hoq ⊢
      have HF := Lib.hid (And.intro (hoq.base HB2.out.1.size) (HB2.out.1.trans (hb.mono HB2.out.1.size)))
      clear hoq hb he
      go_wp2_with fail
      go_ret2
      exact ⟨q, cq, rfl, HF.out.1, HF.out.2⟩
set_option maxRecDepth 100000 in
theorem index_bad (k : Int) (p : Option Addr) (n c : Nat) (l : List Int) (w : World) (A : Nat → Addr) (hr : Roots w A) (hn : n = l.length) (h : IntV w.heap.size w p c l) (i m : Nat) (hc : chkW k l = some (i, m)) :
    Calls Tryz.prog 53 #[.int .i64 k, .slice p n c] w (Err2 w A wordOp i m (.slice none 0 0)) := by
  have hck := check_bad k p n c l w A hr hn h i m hc
  have HCK := Lib.hid hck
  clear h hc hck hr hn
  go_enter Tryz.func53, Tryz.ntmps53
  go_wp2_with fail
  refine HCK.out.mono ?_
  rintro e w1 ⟨b, rfl, hl1, hb1⟩
  have H := Lib.hid (And.intro hl1 hb1)
  clear hl1 hb1
  go_wp2_with fail
  go_ret2
  exact ⟨_, rfl, H.out.1, H.out.2⟩
set_option maxRecDepth 100000 in
theorem index_big (k : Int) (p : Option Addr) (n c : Nat) (l : List Int) (w : World) (A : Nat → Addr) (hr : Roots w A) (hn : n = l.length) (h : IntV w.heap.size w p c l) (hc : chkW k l = none) (h256 : 256 < n) (hn2 : n ≤ 9223372036854775807) :
    Calls Tryz.prog 53 #[.int .i64 k, .slice p n c] w (Err2 w A wordOp 0 4 (.slice none 0 0)) := by
  have hck := check_ok k p n c l w hn h hc
  have HCK := Lib.hid (And.intro hck hr)
  clear h hc hck hr hn
  go_enter Tryz.func53, Tryz.ntmps53
  go_wp2_with fail
  refine HCK.out.1.mono ?_
  rintro e w1 ⟨rfl, hb1⟩
  have H1 := Lib.hid (And.intro hb1 (HCK.out.2.below hb1))
  clear hb1
  go_wp2_with fail
  refine (new_at wordOp 0 4 w1 A H1.out.2 (by omega)).mono ?_
  rintro e w2 ⟨b, rfl, hl1, hb2⟩
  have H := Lib.hid (And.intro hl1 (H1.out.1.trans (hb2.mono H1.out.1.size)))
  clear hl1 hb2
  go_wp2_with fail
  go_ret2
  exact ⟨_, rfl, H.out.1, H.out.2⟩
end Go.Proofs.YtgdjnohhofbcnaaGreatDoor
end
section
namespace Go.Proofs.YtgdjnohhofbcnaaGreatDoor
open Go.RowKit Go.Extern.Stop Go.Stop Go.Extern WordM NatM

/-- the word of n symbols with this number, and no error -/
def AtOk (w : World) (k n i : Nat) (e : Ending) (w' : World) : Prop := ∃ x : List Int, x.length = n ∧ okW k x ∧ valW k x = i ∧ IntOk w x e w'
def AtRel (w : World) (k n i : Nat) (g : Nat) (v2 v11 : Value) (wr : World) : Prop :=
  ∃ (j R : Nat) (x : List Int) (q : Option Addr) (cq : Nat) (b : List Nat), j ≤ n ∧ v11 = .int .i64 ((j : Int) - 1) ∧ v2 = .slice q b.length cq ∧ V32 b = R ∧ NatV wr.heap.size wr q cq b ∧ b.length ≤ 100000 ∧
    x.length = n - j ∧ okW k x ∧ valW k x + k ^ (n - j) * R = i ∧ IntO w.heap.size wr (some ⟨g, 0, none⟩) n (List.replicate j 0 ++ x) ∧ w.heap.size ≤ g ∧ Below w.heap.size w wr
def OverIs (w : World) (q d : Nat) (e : Ending) (w' : World) : Prop :=
  ∃ p c, e = .returned (.tuple #[.slice p (D32 q).length c, .int .u32 (d : Int), .nilIface]) ∧ NatO w.heap.size w' p c (D32 q) ∧ Below w.heap.size w w'
theorem over_is {w : World} {n d q r : Nat} {e : Ending} {w' : World} (hq : n / d = q) (hr : n % d = r) (h : OverPost w n d e w') : OverIs w q r e w' := by
  subst hq hr
  exact h
theorem set_front {x : List Int} {j : Nat} {v : Int} : (List.replicate (j + 1) (0 : Int) ++ x).set j v = List.replicate j 0 ++ v :: x := by
  rw [List.replicate_succ', List.append_assoc, List.set_append_right _ _ (by simp), List.length_replicate, Nat.sub_self]
  rfl
set_option maxRecDepth 100000 in
set_option maxHeartbeats 4000000 in
theorem at_ok (k n : Nat) (p : Option Addr) (m c : Nat) (a : List Nat) (w : World) (hm : m = a.length) (h : NatV w.heap.size w p c a) (hl : a.length ≤ 100000) (h1 : 1 ≤ k) (h4 : k ≤ 4) (h256 : n ≤ 256) (hlt : V32 a < k ^ n) :
    Calls Tryz.prog 56 #[.int .i64 (k : Int), .int .i64 (n : Int), .slice p m c] w (AtOk w k n (V32 a)) := by
  subst hm
  have hpow := pow_any k n (by omega) (by omega) w
  have hpl : (D32 (k ^ n)).length ≤ 100000 := by
    have h2 : k ^ n ≤ 4294967296 ^ n := Nat.pow_le_pow_left (by omega) n
    have h3 : 4294967296 ^ n < 4294967296 ^ (n + 1) := Nat.pow_lt_pow_right (by omega) (by omega)
    have := D32_len (n := k ^ n) (k := n + 1) (by omega)
    omega
  have hck := cmp_lt hlt
  have H := Lib.hid (And.intro h (And.intro hl (And.intro hlt (And.intro hpl (And.intro hck hpow)))))
  clear h hl hlt hpow hpl hck
  have hdn : decide ((n : Int) < 0) = false := by rw [decide_eq_false_iff_not]; omega
  go_enter Tryz.func56, Tryz.ntmps56
  go_wp2_with fail
  refine (alpha_yes _ _ (by omega) (by omega)).mono ?_
  rintro e w' ⟨rfl, rfl⟩
  go_wp2_with fail
  refine H.out.2.2.2.2.2.mono ?_
  rintro e w1 ⟨p1, c1, rfl, ho1, hb1⟩
  have hcmp := cmp_any p p1 c c1 a (D32 (k ^ n)) w1 (H.out.1.next hb1) ho1.toV
  have hcv : cmpV a (D32 (k ^ n)) = .int .i64 (-1) := by unfold cmpV; rw [V32_D32, H.out.2.2.2.2.1]
  rw [hcv] at hcmp
  have HB1 := Lib.hid (And.intro hb1 hcmp)
  clear ho1 hb1 hcmp hcv
  go_wp2_with fail
  refine HB1.out.2.mono ?_
  rintro e w2 ⟨rfl, hb2⟩
  have hmk := makeI n (by omega) w2
  have hb02 : Below w.heap.size w w2 := HB1.out.1.trans (hb2.mono HB1.out.1.size)
  have HB2 := Lib.hid hb02
  clear hb2 hb02
  go_wp2_with fail
  clear hmk
  have ho0 := IntO.made w2 n (by omega)
  have hbm : Below w.heap.size w (w2.alloc (.cells (madeCells #[.int .i64 0] n) 3)) := HB2.out.alloc HB2.out.size _
  obtain ⟨g, hg⟩ : ∃ g, g = w2.heap.size := ⟨_, rfl⟩
  rw [← hg] at ho0 ⊢
  have HM := Lib.hid (And.intro (ho0.base (by rw [hg]; exact HB2.out.size : w.heap.size ≤ g)) (And.intro hbm (by rw [hg]; exact HB2.out.size : w.heap.size ≤ g)))
  clear ho0 hbm hg
  go_loopw [2, 11] (fun v2 v11 wr => AtRel w k n (V32 a) g v2 v11 wr) (fun _ v _ => (intOf v + 1).toNat)
  case atStart => exact ⟨n, V32 a, [], p, c, a, Nat.le_refl _, rfl, rfl, rfl, H.out.1.next HM.out.2.1, H.out.2.1, by simp, okW_nil k, by rw [Nat.sub_self, Nat.pow_zero, Nat.one_mul]; exact Nat.zero_add _, by rw [List.append_nil]; exact HM.out.1, HM.out.2.2, HM.out.2.1⟩
  case round =>
    obtain ⟨j, R, x, q, cq, b, hj, rfl, rfl, hR, hbv, hbl, hxl, hxo, hxv, ho, hgB, hb⟩ := hrel
    rcases Nat.eq_zero_or_pos j with rfl | hj0
    · have hxa : valW k x = V32 a := at_done hxv (by rw [Nat.sub_zero]; exact H.out.2.2.1)
      rw [Nat.sub_zero] at hxl
      have ho' : IntO w.heap.size wr (some ⟨g, 0, none⟩) n x := ho
      have HF := Lib.hid (And.intro hxl (And.intro hxo (And.intro hxa (And.intro ho' hb))))
      clear hR hbv hbl hxl hxo hxv ho ho' hb hxa
      go_wp2_with fail
      go_ret2
      exact ⟨x, HF.out.1, HF.out.2.1, HF.out.2.2.1, _, _, by rw [HF.out.1]; rfl, HF.out.2.2.2.1, HF.out.2.2.2.2⟩
    · obtain ⟨i, rfl⟩ : ∃ i, j = i + 1 := ⟨j - 1, by omega⟩
      have e1 : (((i + 1 : Nat) : Int) - 1) = (i : Int) := by omega
      rw [e1]
      have hov := over_any q cq b k wr hbv hbl h1 (by omega)
      rw [hR] at hov
      have hq : (D32 (R / k)).length ≤ 100000 := by
        have h2 : R / k ≤ R := Nat.div_le_self _ _
        rcases Nat.lt_or_ge 100000 (D32 (R / k)).length with h3 | h3
        · have h5 : (D32 R).length ≤ b.length := by rw [← hR]; exact D32_le hbv.ok
          have := cmp_len (m := R) (n := R / k) (by omega)
          omega
        · exact h3
      have hst := at_step (k := k) (p := n - (i + 1)) (i := R) (i0 := V32 a) hxl hxv
      obtain ⟨d, hd⟩ : ∃ d, R % k = d := ⟨_, rfl⟩
      obtain ⟨Q, hQ⟩ : ∃ Q, R / k = Q := ⟨_, rfl⟩
      have hdk : d < k := by rw [← hd]; exact Nat.mod_lt _ h1
      have hov := hov.mono fun e w' h => over_is hQ hd h
      rw [hd, hQ] at hst
      rw [hQ] at hq
      have hlen : (List.replicate (i + 1) (0 : Int) ++ x).length = n := by simp; omega
      have hown : wr.ownsRow w.heap.size 3 1 (.slice (some ⟨g, 0, none⟩) n n) n (cI (List.replicate (i + 1) 0 ++ x)) := by
        unfold IntO at ho
        rwa [hlen] at ho
      have hin : i < n := by omega
      have HS := Lib.hid (And.intro hov (And.intro hq (And.intro hst (And.intro hown (And.intro hb (And.intro hxo hxl))))))
      clear hov hq hst hown hb hxo hxl hxv ho hlen hR hbv hbl hd hQ e1
      go_wp2_with fail
      refine HS.out.1.mono ?_
      rintro e w3 ⟨p3, c3, rfl, ho3, hb3⟩
      have hown3 := ownsRow_below hb3 HS.out.2.2.2.1
      obtain ⟨y, hy⟩ := getI (l := List.replicate (i + 1) (0 : Int) ++ x) (k := i) (by simp; omega)
      have hcy : w3.cell? ⟨g, i, none⟩ = some (.int .i64 y) := (hown3.cellAt i (by omega)).trans (cI_get hy)
      have hfy : w3.frozen? ⟨g, i, none⟩ = false := hown3.frozenAt i
      obtain ⟨s1, t1⟩ := hown3.stored i (.int .i64 (d : Int))
      rw [← cI_set, set_front] at s1
      have hb03 : Below w.heap.size w w3 := HS.out.2.2.2.2.1.trans (hb3.mono HS.out.2.2.2.2.1.size)
      have hb4 : Below w.heap.size w (w3.setCell ⟨g, i, none⟩ (.int .i64 (d : Int))) := hb03.setCell (p := ⟨g, i, none⟩) hgB _
      have hv3 : NatV (w3.setCell ⟨g, i, none⟩ (.int .i64 (d : Int))).heap.size (w3.setCell ⟨g, i, none⟩ (.int .i64 (d : Int))) p3 c3 (D32 Q) := by
        have hgl : g < wr.heap.size := by
          rcases own_shape HS.out.2.2.2.1 with ⟨hv, h0, _⟩ | ⟨g', cap, hv, _, hlt', _⟩
          · simp at hv
          · have e : g = g' := by simpa using (Value.slice.inj hv).1
            omega
        have ho4 : NatO wr.heap.size (w3.setCell ⟨g, i, none⟩ (.int .i64 (d : Int))) p3 c3 (D32 Q) := ⟨ownsRow_setCell_below ho3.own (a := ⟨g, i, none⟩) hgl _, ho3.ok⟩
        exact ho4.toV
      have HF := Lib.hid (And.intro s1 (And.intro hb4 hv3))
      clear hown3 hy s1 t1 hb03 hb4 hv3 ho3 hb3
      go_wp2_with fail
      go_roundw
      case rel =>
        refine ⟨i, Q, (d : Int) :: x, p3, c3, D32 Q, by omega, rfl, rfl, V32_D32 Q, HF.out.2.2, HS.out.2.1, ?_, ?_, ?_, ?_, hgB, HF.out.2.1⟩
        · rw [List.length_cons, HS.out.2.2.2.2.2.2]; omega
        · intro z hz
          rcases List.mem_cons.1 hz with rfl | hz
          · omega
          · exact HS.out.2.2.2.2.2.1 z hz
        · have := HS.out.2.2.1
          rw [show n - (i + 1) + 1 = n - i by omega] at this
          exact this
        · unfold IntO
          have hlen : (List.replicate i (0 : Int) ++ (d : Int) :: x).length = n := by simp; have := HS.out.2.2.2.2.2.2; omega
          rw [hlen]; exact HF.out.1
      case measure => simp [intOf]
end Go.Proofs.YtgdjnohhofbcnaaGreatDoor
end
section
namespace Go.Proofs.YtgdjnohhofbcnaaGreatDoor
open Go.RowKit Go.Extern.Stop Go.Stop Go.Extern WordM NatM

set_option maxRecDepth 100000 in
set_option maxHeartbeats 1000000 in
theorem at_arg (k n : Int) (p : Option Addr) (m c : Nat) (w : World) (A : Nat → Addr) (hr : Roots w A) (h : (k < 1 ∨ 4 < k) ∨ n < 0) :
    Calls Tryz.prog 56 #[.int .i64 k, .int .i64 n, .slice p m c] w (Err2 w A wordOp 0 3 (.slice none 0 0)) := by
  have HR := Lib.hid hr
  clear hr
  by_cases hk : k < 1 ∨ 4 < k
  · clear h
    go_enter Tryz.func56, Tryz.ntmps56
    go_wp2_with fail
    refine (alpha_no _ _ hk).mono ?_
    rintro e w' ⟨rfl, rfl⟩
    go_wp2_with fail
    refine (new_at wordOp 0 3 _ A HR.out (by omega)).mono ?_
    rintro e w1 ⟨b, rfl, hl1, hb1⟩
    have H := Lib.hid (And.intro hl1 hb1)
    clear hl1 hb1
    go_wp2_with fail
    go_ret2
    exact ⟨_, rfl, H.out.1, H.out.2⟩
  · have hn : n < 0 := by omega
    have hk1 : 1 ≤ k := by omega
    have hk4 : k ≤ 4 := by omega
    clear h hk
    go_enter Tryz.func56, Tryz.ntmps56
    go_wp2_with fail
    refine (alpha_yes _ _ hk1 hk4).mono ?_
    rintro e w' ⟨rfl, rfl⟩
    go_wp2_with fail
    refine (new_at wordOp 0 3 _ A HR.out (by omega)).mono ?_
    rintro e w1 ⟨b, rfl, hl1, hb1⟩
    have H := Lib.hid (And.intro hl1 hb1)
    clear hl1 hb1
    go_wp2_with fail
    go_ret2
    exact ⟨_, rfl, H.out.1, H.out.2⟩
set_option maxRecDepth 100000 in
set_option maxHeartbeats 1000000 in
theorem at_long (k n : Int) (p : Option Addr) (m c : Nat) (w : World) (A : Nat → Addr) (hr : Roots w A) (hk1 : 1 ≤ k) (hk4 : k ≤ 4) (hn : 256 < n) :
    Calls Tryz.prog 56 #[.int .i64 k, .int .i64 n, .slice p m c] w (Err2 w A wordOp 0 4 (.slice none 0 0)) := by
  have HR := Lib.hid hr
  have hn0 : ¬ n < 0 := by omega
  clear hr
  go_enter Tryz.func56, Tryz.ntmps56
  go_wp2_with fail
  refine (alpha_yes _ _ hk1 hk4).mono ?_
  rintro e w' ⟨rfl, rfl⟩
  go_wp2_with fail
  refine (new_at wordOp 0 4 _ A HR.out (by omega)).mono ?_
  rintro e w1 ⟨b, rfl, hl1, hb1⟩
  have H := Lib.hid (And.intro hl1 hb1)
  clear hl1 hb1
  go_wp2_with fail
  go_ret2
  exact ⟨_, rfl, H.out.1, H.out.2⟩
set_option maxRecDepth 100000 in
set_option maxHeartbeats 4000000 in
theorem at_over (k n : Nat) (p : Option Addr) (m c : Nat) (a : List Nat) (w : World) (A : Nat → Addr) (hr : Roots w A) (hm : m = a.length) (h : NatV w.heap.size w p c a) (h1 : 1 ≤ k) (h4 : k ≤ 4) (h256 : n ≤ 256) (hge : k ^ n ≤ V32 a) :
    Calls Tryz.prog 56 #[.int .i64 (k : Int), .int .i64 (n : Int), .slice p m c] w (Err2 w A wordOp 0 3 (.slice none 0 0)) := by
  subst hm
  have hpow := pow_any k n (by omega) (by omega) w
  have hcv : ∃ r : Int, 0 ≤ r ∧ cmpN (V32 a) (k ^ n) = r := by
    rcases Nat.lt_or_ge (k ^ n) (V32 a) with h1 | h1
    · exact ⟨1, by omega, by rw [cmp_gt h1]⟩
    · exact ⟨0, by omega, by rw [show V32 a = k ^ n by omega, cmp_eq]⟩
  obtain ⟨r, hr0, hcr⟩ := hcv
  have H := Lib.hid (And.intro h (And.intro hcr (And.intro hpow hr)))
  clear h hcr hpow hr hge
  have hdn : decide ((n : Int) < 0) = false := by rw [decide_eq_false_iff_not]; omega
  go_enter Tryz.func56, Tryz.ntmps56
  go_wp2_with fail
  refine (alpha_yes _ _ (by omega) (by omega)).mono ?_
  rintro e w' ⟨rfl, rfl⟩
  go_wp2_with fail
  refine H.out.2.2.1.mono ?_
  rintro e w1 ⟨p1, c1, rfl, ho1, hb1⟩
  have hcmp := cmp_any p p1 c c1 a (D32 (k ^ n)) w1 (H.out.1.next hb1) ho1.toV
  have hcv : cmpV a (D32 (k ^ n)) = .int .i64 r := by unfold cmpV; rw [V32_D32, H.out.2.1]
  rw [hcv] at hcmp
  have HB1 := Lib.hid (And.intro hb1 hcmp)
  clear ho1 hb1 hcmp hcv
  go_wp2_with fail
  refine HB1.out.2.mono ?_
  rintro e w2 ⟨rfl, hb2⟩
  have hb02 : Below w.heap.size w w2 := HB1.out.1.trans (hb2.mono HB1.out.1.size)
  have HB2 := Lib.hid (And.intro hb02 (H.out.2.2.2.below hb02))
  clear hb2 hb02
  go_wp2_with fail
  refine (new_at wordOp 0 3 _ A HB2.out.2 (by omega)).mono ?_
  rintro e w3 ⟨b, rfl, hl3, hb3⟩
  have HF := Lib.hid (And.intro hl3 (HB2.out.1.trans (hb3.mono HB2.out.1.size)))
  clear hl3 hb3
  go_wp2_with fail
  go_ret2
  exact ⟨_, rfl, HF.out.1, HF.out.2⟩

/-- whatever Pow tells -/
def PowSome (w : World) (e : Ending) (w' : World) : Prop := ∃ p n c v, e = .returned (.tuple #[.slice p n c, v]) ∧ Below w.heap.size w w'
theorem pow_some (k n : Int) (w : World) (A : Nat → Addr) (hr : Roots w A) (hk : 0 ≤ k) (hk2 : k < 4294967296) : Calls Tryz.prog 118 #[.int .u32 k, .int .i64 n] w (PowSome w) := by
  rcases (by omega : n < 0 ∨ 1024 < n ∨ (0 ≤ n ∧ n ≤ 1024)) with h | h | ⟨h1, h2⟩
  · refine (pow_neg k n h w A hr).mono fun e w' ⟨b, he, _, hb⟩ => ⟨_, _, _, _, he, hb⟩
  · refine (pow_big k n h w A hr).mono fun e w' ⟨b, he, _, hb⟩ => ⟨_, _, _, _, he, hb⟩
  · obtain ⟨m, rfl⟩ : ∃ m : Nat, n = (m : Int) := ⟨n.toNat, by omega⟩
    obtain ⟨q, rfl⟩ : ∃ q : Nat, k = (q : Int) := ⟨k.toNat, by omega⟩
    refine (pow_any q m (by omega) (by omega) w).mono fun e w' ⟨p, c, he, _, hb⟩ => ⟨_, _, _, _, he, hb⟩
end Go.Proofs.YtgdjnohhofbcnaaGreatDoor
end
section
namespace Go.Proofs.YtgdjnohhofbcnaaGreatDoor
open Go.RowKit Go.Extern.Stop Go.Stop Go.Extern WordM RuleM NatM
attribute [local go_sem ↓] Go.wp_at_zero Go.wp_at_succ

set_option maxRecDepth 100000 in
set_option maxHeartbeats 2000000 in
theorem step_bad (k r : Int) (p q : Option Addr) (n c m d : Nat) (t l : List Int) (w : World) (A : Nat → Addr) (hr : Roots w A) (hn : n = t.length) (hm : m = l.length) (h : IntV w.heap.size w p c t) (hl : IntV w.heap.size w q d l) (i a : Nat) (hc : chkT k r t l = some (i, a)) :
    Calls Tryz.prog 23 #[.agg #[.int .i64 k, .int .i64 r, .slice p n c], .slice q m d] w (Err2 w A ruleOp i a (.slice none 0 0)) := by
  have start : ∀ (w0 : World), w0 = w.alloc (.cells #[.int .i64 k, .int .i64 r, .slice p n c] 24) → Below w.heap.size w w0 ∧ Rul3 w0 w.heap.size (.int .i64 k) (.int .i64 r) (.slice p n c) := fun w0 hw0 =>
    ⟨by rw [hw0]; exact (Below.refl _ _).alloc (Nat.le_refl _) _, by rw [hw0]; exact Rul3.new w _ _ _⟩
  have ST := Lib.hid start
  clear start
  unfold chkT at hc
  split at hc
  · obtain ⟨rfl, rfl⟩ := Prod.mk.inj (Option.some.inj hc)
    rename_i hcr
    have H := Lib.hid (And.intro h (And.intro hn (And.intro hr hcr)))
    clear h hn hr hcr hc hm hl
    go_enter Tryz.func23, Tryz.ntmps23
    go_wp2_with fail
    obtain ⟨w0, hw0⟩ : ∃ w0, w0 = w.alloc (.cells #[.int .i64 k, .int .i64 r, .slice p n c] 24) := ⟨_, rfl⟩
    rw [← hw0]
    obtain ⟨hb0, hE0⟩ := ST.out w0 hw0
    obtain ⟨⟨hf0, hf1, hf2⟩, hc0, hc1, hc2⟩ := hE0.facts
    have HE := Lib.hid (And.intro hE0 hb0)
    clear hw0 hE0 hb0
    go_wp2_with fail
    refine (rcheck_bad k r p n c t w0 A (H.out.2.2.1.below HE.out.2) H.out.2.1 (H.out.1.next HE.out.2) _ H.out.2.2.2).mono ?_
    rintro e w1 ⟨b, rfl, hl1, hb1⟩
    have HF := Lib.hid (And.intro hl1 (HE.out.2.trans (hb1.mono HE.out.2.size)))
    clear hl1 hb1
    go_wp2_with fail
    go_ret2
    exact ⟨_, rfl, HF.out.1, HF.out.2⟩
  · rename_i hcr
    obtain ⟨K, R, rfl, rfl, ho⟩ := chkR_none hcr
    have h4 := ho.k4
    have hle := hl.le
    have hcap := hl.cap
    unfold maxLen at hcap
    have hmx : m ≤ 9223372036854775807 := by omega
    split at hc
    · obtain ⟨rfl, rfl⟩ := Prod.mk.inj (Option.some.inj hc)
      rename_i hne
      have hne' : 4096 < m := by omega
      have H := Lib.hid (And.intro h (And.intro hn (And.intro hr ho)))
      clear h hn hr hcr hc hm hl ho hne hle hcap
      go_enter Tryz.func23, Tryz.ntmps23
      go_wp2_with fail
      obtain ⟨w0, hw0⟩ : ∃ w0, w0 = w.alloc (.cells #[.int .i64 (K : Int), .int .i64 (R : Int), .slice p n c] 24) := ⟨_, rfl⟩
      rw [← hw0]
      obtain ⟨hb0, hE0⟩ := ST.out w0 hw0
      obtain ⟨⟨hf0, hf1, hf2⟩, hc0, hc1, hc2⟩ := hE0.facts
      have HE := Lib.hid (And.intro hE0 hb0)
      clear hw0 hE0 hb0
      go_wp2_with fail
      refine (rcheck_ok K R p n c t w0 H.out.2.1 (H.out.1.next HE.out.2) H.out.2.2.2).mono ?_
      rintro e w1 ⟨rfl, hb1⟩
      have H1 := Lib.hid (And.intro (HE.out.1.next hb1) (HE.out.2.trans (hb1.mono HE.out.2.size)))
      clear hb1 hf0 hf1 hf2 hc0 hc1 hc2
      obtain ⟨⟨hf0, hf1, hf2⟩, hc0, hc1, hc2⟩ := H1.out.1.facts
      go_wp2_with fail
      refine (new_at ruleOp 0 4 w1 A (H.out.2.2.1.below H1.out.2) (by omega)).mono ?_
      rintro e w2 ⟨b, rfl, hl2, hb2⟩
      have HF := Lib.hid (And.intro hl2 (H1.out.2.trans (hb2.mono H1.out.2.size)))
      clear hl2 hb2
      go_wp2_with fail
      go_ret2
      exact ⟨_, rfl, HF.out.1, HF.out.2⟩
    · rename_i hlen
      obtain ⟨j, hj, he⟩ := Option.map_eq_some_iff.1 hc
      obtain ⟨rfl, rfl⟩ := Prod.mk.inj he
      have hjl := strayN_lt hj
      have hst := strayN_bad hj
      have hjm : j < m := by omega
      have hm4 : ¬ 4096 < m := by omega
      have H := Lib.hid (And.intro h (And.intro hn (And.intro hr (And.intro ho (And.intro hst (And.intro hl hm))))))
      clear h hn hr hcr hc hm hl ho hle hcap hst hjl hj hlen he
      go_enter Tryz.func23, Tryz.ntmps23
      go_wp2_with fail
      obtain ⟨w0, hw0⟩ : ∃ w0, w0 = w.alloc (.cells #[.int .i64 (K : Int), .int .i64 (R : Int), .slice p n c] 24) := ⟨_, rfl⟩
      rw [← hw0]
      obtain ⟨hb0, hE0⟩ := ST.out w0 hw0
      obtain ⟨⟨hf0, hf1, hf2⟩, hc0, hc1, hc2⟩ := hE0.facts
      have HE := Lib.hid (And.intro hE0 hb0)
      clear hw0 hE0 hb0
      go_wp2_with fail
      refine (rcheck_ok K R p n c t w0 H.out.2.1 (H.out.1.next HE.out.2) H.out.2.2.2.1).mono ?_
      rintro e w1 ⟨rfl, hb1⟩
      have H1 := Lib.hid (And.intro (HE.out.1.next hb1) (HE.out.2.trans (hb1.mono HE.out.2.size)))
      clear hb1 hf0 hf1 hf2 hc0 hc1 hc2
      obtain ⟨⟨hf0, hf1, hf2⟩, hc0, hc1, hc2⟩ := H1.out.1.facts
      go_wp2_with fail
      refine (stray_any (K : Int) q m d l w1 H.out.2.2.2.2.2.2 (H.out.2.2.2.2.2.1.next H1.out.2)).mono ?_
      rintro e w2 ⟨rfl, rfl⟩
      rw [H.out.2.2.2.2.1]
      go_wp2_with fail
      refine (new_at ruleOp j 2 w1 A (H.out.2.2.1.below H1.out.2) (by omega)).mono ?_
      rintro e w2 ⟨b, rfl, hl2, hb2⟩
      have HF := Lib.hid (And.intro hl2 (H1.out.2.trans (hb2.mono H1.out.2.size)))
      clear hl2 hb2
      go_wp2_with fail
      go_ret2
      exact ⟨_, rfl, HF.out.1, HF.out.2⟩
/-- Step, whatever is asked that it does not refuse -/
theorem step_ok (k r : Int) (p q : Option Addr) (n c m d : Nat) (t l : List Int) (w : World) (hn : n = t.length) (hm : m = l.length) (h : IntV w.heap.size w p c t) (hl : IntV w.heap.size w q d l) (hc : chkT k r t l = none) :
    Calls Tryz.prog 23 #[.agg #[.int .i64 k, .int .i64 r, .slice p n c], .slice q m d] w (IntOk w (imgW k.toNat r.toNat t l)) := by
  obtain ⟨K, R, rfl, rfl, ho, hl4, hw⟩ := chkT_none hc
  rw [Int.toNat_natCast, Int.toNat_natCast]
  rcases Nat.lt_or_ge (2 * R) m with h1 | h1
  · exact step_long K R p q n c m d t l w hn hm h hl ho h1 (by omega) hw
  · exact step_short K R p q n c m d t l w hn hm h hl ho h1 hw

set_option maxRecDepth 100000 in
set_option maxHeartbeats 4000000 in
theorem code_ok (k r : Nat) (p : Option Addr) (n c : Nat) (t : List Int) (w : World) (hn : n = t.length) (h : IntV w.heap.size w p c t) (ho : OkR k r t) (hs : t.length ≤ 256) :
    Calls Tryz.prog 26 #[.agg #[.int .i64 (k : Int), .int .i64 (r : Int), .slice p n c]] w (NumOk w (codeR k t)) := by
  have hck : chkW k t.reverse = none := chkW_ok ho.k1 ho.k4 (by rw [List.length_reverse]; omega) ho.rev
  have hcode : codeR k t = valW k t.reverse := rfl
  have hrl : t.reverse.length ≤ 256 := by rw [List.length_reverse]; exact hs
  have hback := fun wx hx => back_any p n c t wx hn hx (by omega)
  obtain ⟨tr, htr⟩ : ∃ tr, t.reverse = tr := ⟨_, rfl⟩
  rw [htr] at hck hcode hrl
  simp only [htr] at hback
  rw [hcode]
  have H := Lib.hid (And.intro h (And.intro hn (And.intro ho (And.intro hs (And.intro hck (And.intro hrl hback))))))
  clear h hn ho hs hck hcode hrl hback htr
  go_enter Tryz.func26, Tryz.ntmps26
  go_wp2_with fail
  obtain ⟨w0, hw0⟩ : ∃ w0, w0 = w.alloc (.cells #[.int .i64 (k : Int), .int .i64 (r : Int), .slice p n c] 24) := ⟨_, rfl⟩
  have hb0 : Below w.heap.size w w0 := by rw [hw0]; exact (Below.refl _ _).alloc (Nat.le_refl _) _
  have hE0 : Rul3 w0 w.heap.size (.int .i64 (k : Int)) (.int .i64 (r : Int)) (.slice p n c) := by rw [hw0]; exact Rul3.new w _ _ _
  rw [← hw0]
  obtain ⟨⟨hf0, hf1, hf2⟩, hc0, hc1, hc2⟩ := hE0.facts
  have HE := Lib.hid (And.intro hE0 hb0)
  clear hw0 hE0 hb0
  go_wp2_with fail
  refine (small_ok k r p n c t w0 H.out.2.1 (H.out.1.next HE.out.2) H.out.2.2.1 H.out.2.2.2.1).mono ?_
  rintro e w1 ⟨rfl, hb1⟩
  have hE1 := HE.out.1.next hb1
  have hbw1 := HE.out.2.trans (hb1.mono HE.out.2.size)
  have hbk : ∀ wx : World, Below w1.heap.size w1 wx → Calls Tryz.prog 64 #[.slice p n c] wx (IntPost wx tr) := fun wx hbx =>
    H.out.2.2.2.2.2.2 wx ((H.out.1.next hbw1).next hbx)
  have hix : ∀ (wx : World) (pa : Option Addr) (ca : Nat), IntV wx.heap.size wx pa ca tr → Calls Tryz.prog 53 #[.int .i64 (k : Int), .slice pa tr.length ca] wx (NumOk wx (valW k tr)) := fun wx pa ca hx =>
    index_ok k pa _ ca tr wx rfl hx H.out.2.2.2.2.1 H.out.2.2.2.2.2.1
  have hxA : ∀ wx : World, Below w1.heap.size w1 wx → wx.cell? ⟨w.heap.size, 0, none⟩ = some (.int .i64 (k : Int)) := fun wx hbx => (hE1.next hbx).facts.2.1
  have hxB : ∀ wx : World, Below w1.heap.size w1 wx → wx.cell? ⟨w.heap.size, 2, none⟩ = some (.slice p n c) := fun wx hbx => (hE1.next hbx).facts.2.2.2
  have hd0 : Below w1.heap.size w1 w1.drew := (Below.refl _ _).drew
  have HS := Lib.hid hbw1
  clear hf0 hf1 hf2 hc0 hc1 hc2 hb1 hbw1 hE1
  go_wp2_with fail
  go_region_held3 (fun w' => w'.cell? ⟨w.heap.size, 0, none⟩ = some (.int .i64 (k : Int)) ∧ w'.cell? ⟨w.heap.size, 2, none⟩ = some (.slice p n c)) (first | exact ⟨hxA _ (by assumption), hxB _ (by assumption)⟩ | exact ⟨hxA _ (Below.refl _ _), hxB _ (Below.refl _ _)⟩ | exact ⟨hxA _ hd0, hxB _ hd0⟩ | go_keep) (first
    | (go_at_call 64; refine (hbk _ (by first | assumption | exact Below.refl _ _)).mono ?_; rintro e wa ⟨pa, ca, rfl, hoa, hba⟩; have hBa : Below w1.heap.size w1 wa := (by first | exact hba | exact hd0.trans (hba.mono hd0.size)))
    | (go_at_call 53; refine (hix _ pa ca hoa.toV).mono ?_; rintro e wb ⟨pb, cb, rfl, hob, hbb⟩; have hBb : Below w1.heap.size w1 wb := hBa.trans (hbb.mono hBa.size)))
  all_goals
    have HF := Lib.hid (And.intro (hob.base (Nat.le_trans HS.out.size hBa.size)) (HS.out.trans (hBb.mono HS.out.size)))
    clear hbk hix hxA hxB hba hbb hBa hBb hoa hob
    go_wp2_with fail
    go_ret2
    exact ⟨_, _, rfl, HF.out.1, HF.out.2⟩
set_option maxRecDepth 100000 in
set_option maxHeartbeats 2000000 in
theorem code_bad (k r : Int) (p : Option Addr) (n c : Nat) (t : List Int) (w : World) (A : Nat → Addr) (hr : Roots w A) (hn : n = t.length) (h : IntV w.heap.size w p c t) (i m : Nat) (hc : chkS k r t = some (i, m)) :
    Calls Tryz.prog 26 #[.agg #[.int .i64 k, .int .i64 r, .slice p n c]] w (Err2 w A ruleOp i m (.slice none 0 0)) := by
  have H := Lib.hid (And.intro h (And.intro hn (And.intro hr hc)))
  clear h hn hr hc
  go_enter Tryz.func26, Tryz.ntmps26
  go_wp2_with fail
  obtain ⟨w0, hw0⟩ : ∃ w0, w0 = w.alloc (.cells #[.int .i64 k, .int .i64 r, .slice p n c] 24) := ⟨_, rfl⟩
  have hb0 : Below w.heap.size w w0 := by rw [hw0]; exact (Below.refl _ _).alloc (Nat.le_refl _) _
  have hE0 : Rul3 w0 w.heap.size (.int .i64 k) (.int .i64 r) (.slice p n c) := by rw [hw0]; exact Rul3.new w _ _ _
  rw [← hw0]
  obtain ⟨⟨hf0, hf1, hf2⟩, hc0, hc1, hc2⟩ := hE0.facts
  have HE := Lib.hid hb0
  clear hw0 hE0 hb0
  go_wp2_with fail
  refine (small_bad k r p n c t w0 A (H.out.2.2.1.below HE.out) H.out.2.1 (H.out.1.next HE.out) i m H.out.2.2.2).mono ?_
  rintro e w1 ⟨b, rfl, hl1, hb1⟩
  have HF := Lib.hid (And.intro hl1 (HE.out.trans (hb1.mono HE.out.size)))
  clear hl1 hb1
  go_wp2_with fail
  go_ret2
  exact ⟨_, rfl, HF.out.1, HF.out.2⟩
end Go.Proofs.YtgdjnohhofbcnaaGreatDoor
end
section
namespace Go.Proofs.YtgdjnohhofbcnaaGreatDoor
open Go.RowKit Go.Extern WordM NatM

/-- an Err of package word: its number k at place pl -/
def RefErrW (w : World) (pl k : Int) (v : Value) (w' : World) : Prop :=
  ∃ g g', v = .agg #[.int .i64 k, .slice (some ⟨g, 0, none⟩) 1 1, .slice (some ⟨g', 0, none⟩) 1 1] ∧ (w.heap.size ≤ g ∧ w.heap.size ≤ g') ∧ WantV w' (some ⟨g, 0, none⟩) (some ⟨g', 0, none⟩) 1 1 [(wordOp, pl)] ∧ Below w.heap.size w w'
theorem WantV.put3 {w : World} {g g' h : Nat} {op : ByteArray} {pl : Int} (hv : WantV w (some ⟨g, 0, none⟩) (some ⟨g', 0, none⟩) 1 1 [(op, pl)]) (hg : g ≠ h) (hg' : g' ≠ h) (a b c : Value) : WantV (put3 w h a b c) (some ⟨g, 0, none⟩) (some ⟨g', 0, none⟩) 1 1 [(op, pl)] := by
  obtain ⟨b1, o1, e1, l1, c1⟩ := hv.ops (by simp)
  obtain ⟨b2, o2, e2, l2, c2⟩ := hv.ats (by simp)
  obtain ⟨rfl, rfl⟩ : g = b1 ∧ 0 = o1 := by simpa using e1
  obtain ⟨rfl, rfl⟩ : g' = b2 ∧ 0 = o2 := by simpa using e2
  exact WantV.one (by rw [put3_size]; exact l1) (by rw [put3_size]; exact l2) ((put3_cell w h a b c _ hg).trans (c1 0 _ rfl)) ((put3_cell w h a b c _ hg').trans (c2 0 _ rfl))
def RefErrW1 (w : World) (pl k : Int) (e : Ending) (w' : World) : Prop := ∃ v, e = .returned v ∧ RefErrW w pl k v w'
/-- refused: the zero value v0, and the error -/
def RefErrW2 (w : World) (v0 : Value) (pl k : Int) (e : Ending) (w' : World) : Prop := ∃ v, e = .returned (.tuple #[v0, v]) ∧ RefErrW w pl k v w'

set_option maxRecDepth 100000 in
set_option maxHeartbeats 4000000 in
theorem check_ref_ok (k : Int) (p : Option Addr) (n c : Nat) (l : List Int) (w : World) (hn : n = l.length) (h : IntV w.heap.size w p c l) (hc : chkW k l = none) :
    Calls Tryz.prog 51 #[.int .i64 k, .slice p n c] w (Tells noErr w) := by
  obtain ⟨k, rfl, h1, h4, hl, ho⟩ := chkW_none hc
  have hle := h.le
  have hcap := h.cap
  unfold maxLen at hcap
  have hn4 : n ≤ 4096 := by omega
  have hnc : n ≤ c := by omega
  have hk1 : ¬ (k : Int) < 1 := by omega
  have hk4 : ¬ (4 : Int) < k := by omega
  have H := Lib.hid (And.intro h (And.intro ho hn))
  clear h hc hl ho hn hle
  go_enter Tryz.func51, Tryz.ntmps51
  go_wp2_with fail
  obtain ⟨w0, hw0⟩ : ∃ w0, w0 = w.alloc (.cells #[.int .i64 0, .slice none 0 0, .slice none 0 0] 32) := ⟨_, rfl⟩
  have hb0 : Below w.heap.size w w0 := by rw [hw0]; exact (Below.refl _ _).alloc (Nat.le_refl _) _
  have hs0 : w.heap.size < w0.heap.size := by rw [hw0]; simp
  have hE0 : Err3 w0 w.heap.size (.int .i64 0) (.slice none 0 0) (.slice none 0 0) := by rw [hw0]; exact Err3.new w
  rw [← hw0]
  have HE := Lib.hid (And.intro hE0 hb0)
  clear hw0 hE0 hb0
  go_loop [5] (fun v => ∃ j : Nat, j ≤ n ∧ v = .int .i64 (j : Int)) (fun v => n - (intOf v).toNat)
  case atStart => exact ⟨0, Nat.zero_le _, rfl⟩
  case round =>
    obtain ⟨j, hj, rfl⟩ := hrel
    by_cases hlt : j < n
    · have hnl := H.out.2.2
      have hne : l ≠ [] := by rintro rfl; simp at hnl; omega
      obtain ⟨b, off, rfl, hb, hc⟩ := H.out.1.cell hne
      obtain ⟨x, hx⟩ := getI (l := l) (k := j) (by omega)
      have hcx : w0.cell? ⟨b, off + j, none⟩ = some (.int .i64 x) := (HE.out.2.cell (p := ⟨b, off + j, none⟩) hb).trans (hc j x hx)
      have hxo := H.out.2.1 x (List.mem_of_getElem? hx)
      have hx1 : ¬ x < 0 := by omega
      have hx2 : ¬ (k : Int) ≤ x := by omega
      clear hc hx hne hnl hxo
      go_wp2_with fail
      go_round
      case rel => exact ⟨j + 1, by omega, by go_num⟩
      case measure => simp [intOf]; omega
    · obtain rfl : j = n := by omega
      obtain ⟨⟨hf0, hf1, hf2⟩, hc0, hc1, hc2⟩ := HE.out.1.facts
      go_wp2_with fail
      refine bodyPost_ret (v := noErr) (by simp [results, Tryz.results51, go_sem, hc0, hc1, hc2, noErr]) rfl ⟨rfl, ?_⟩
      exact put3_below HE.out.2 (Nat.le_refl _) _ _ _

set_option maxRecDepth 100000 in
set_option maxHeartbeats 8000000 in
theorem check_ref_bad (k : Int) (p : Option Addr) (n c : Nat) (l : List Int) (w : World) (hn : n = l.length) (h : IntV w.heap.size w p c l) (i m : Nat) (hc : chkW k l = some (i, m)) :
    Calls Tryz.prog 51 #[.int .i64 k, .slice p n c] w (RefErrW1 w i m) := by
  unfold chkW at hc
  have hle := h.le
  have hcap := h.cap
  unfold maxLen at hcap
  have hnc : n ≤ c := by omega
  split at hc
  · obtain ⟨rfl, rfl⟩ := Prod.mk.inj (Option.some.inj hc)
    rename_i hk
    clear h hn hle hc
    rcases Int.lt_or_le k 1 with hk1 | hk1
    · go_enter Tryz.func51, Tryz.ntmps51
      go_wp2_with fail
      obtain ⟨w0, hw0⟩ : ∃ w0, w0 = w.alloc (.cells #[.int .i64 0, .slice none 0 0, .slice none 0 0] 32) := ⟨_, rfl⟩
      have hb0 : Below w.heap.size w w0 := by rw [hw0]; exact (Below.refl _ _).alloc (Nat.le_refl _) _
      have hs0 : w.heap.size < w0.heap.size := by rw [hw0]; simp
      have hE0 : Err3 w0 w.heap.size (.int .i64 0) (.slice none 0 0) (.slice none 0 0) := by rw [hw0]; exact Err3.new w
      rw [← hw0]
      have HE := Lib.hid (And.intro hE0 hb0)
      clear hw0 hE0 hb0
      refine (raw_fresh wordOp 0 3 w0).mono ?_
      rintro e w2 ⟨g, g', rfl, ⟨hg1, hg2, hg3, hg4⟩, hcg, hcg', hb2⟩
      obtain ⟨⟨hf0, hf1, hf2⟩, hc0, hc1, hc2⟩ := (HE.out.1.next hb2).facts
      have HB2 := Lib.hid (And.intro hcg (And.intro hcg' (HE.out.2.trans (hb2.mono (by omega)))))
      clear hb2 hcg hcg'
      go_wp2_with fail
      refine bodyPost_ret (v := .agg #[.int .i64 3, .slice (some ⟨g, 0, none⟩) 1 1, .slice (some ⟨g', 0, none⟩) 1 1]) (by simp [results, Tryz.results51, go_sem, hc0, hc1, hc2]) rfl ⟨_, rfl, g, g', rfl, ⟨by omega, by omega⟩, ?_, ?_⟩
      · exact WantV.one (by simp; omega) (by simp; omega) ((put3_cell w2 w.heap.size _ _ _ _ (by simp; omega)).trans HB2.out.1) ((put3_cell w2 w.heap.size _ _ _ _ (by simp; omega)).trans HB2.out.2.1)
      · exact put3_below HB2.out.2.2 (Nat.le_refl _) _ _ _
    · have hk4 : 4 < k := by omega
      have hk1' : ¬ k < 1 := by omega
      clear hk
      go_enter Tryz.func51, Tryz.ntmps51
      go_wp2_with fail
      obtain ⟨w0, hw0⟩ : ∃ w0, w0 = w.alloc (.cells #[.int .i64 0, .slice none 0 0, .slice none 0 0] 32) := ⟨_, rfl⟩
      have hb0 : Below w.heap.size w w0 := by rw [hw0]; exact (Below.refl _ _).alloc (Nat.le_refl _) _
      have hs0 : w.heap.size < w0.heap.size := by rw [hw0]; simp
      have hE0 : Err3 w0 w.heap.size (.int .i64 0) (.slice none 0 0) (.slice none 0 0) := by rw [hw0]; exact Err3.new w
      rw [← hw0]
      have HE := Lib.hid (And.intro hE0 hb0)
      clear hw0 hE0 hb0
      refine (raw_fresh wordOp 0 3 w0).mono ?_
      rintro e w2 ⟨g, g', rfl, ⟨hg1, hg2, hg3, hg4⟩, hcg, hcg', hb2⟩
      obtain ⟨⟨hf0, hf1, hf2⟩, hc0, hc1, hc2⟩ := (HE.out.1.next hb2).facts
      have HB2 := Lib.hid (And.intro hcg (And.intro hcg' (HE.out.2.trans (hb2.mono (by omega)))))
      clear hb2 hcg hcg'
      go_wp2_with fail
      refine bodyPost_ret (v := .agg #[.int .i64 3, .slice (some ⟨g, 0, none⟩) 1 1, .slice (some ⟨g', 0, none⟩) 1 1]) (by simp [results, Tryz.results51, go_sem, hc0, hc1, hc2]) rfl ⟨_, rfl, g, g', rfl, ⟨by omega, by omega⟩, ?_, ?_⟩
      · exact WantV.one (by simp; omega) (by simp; omega) ((put3_cell w2 w.heap.size _ _ _ _ (by simp; omega)).trans HB2.out.1) ((put3_cell w2 w.heap.size _ _ _ _ (by simp; omega)).trans HB2.out.2.1)
      · exact put3_below HB2.out.2.2 (Nat.le_refl _) _ _ _
  · split at hc
    · obtain ⟨rfl, rfl⟩ := Prod.mk.inj (Option.some.inj hc)
      have hn4 : 4096 < n := by omega
      have hk1 : ¬ k < 1 := by omega
      have hk4 : ¬ 4 < k := by omega
      clear h hn hle hc
      go_enter Tryz.func51, Tryz.ntmps51
      go_wp2_with fail
      obtain ⟨w0, hw0⟩ : ∃ w0, w0 = w.alloc (.cells #[.int .i64 0, .slice none 0 0, .slice none 0 0] 32) := ⟨_, rfl⟩
      have hb0 : Below w.heap.size w w0 := by rw [hw0]; exact (Below.refl _ _).alloc (Nat.le_refl _) _
      have hs0 : w.heap.size < w0.heap.size := by rw [hw0]; simp
      have hE0 : Err3 w0 w.heap.size (.int .i64 0) (.slice none 0 0) (.slice none 0 0) := by rw [hw0]; exact Err3.new w
      rw [← hw0]
      have HE := Lib.hid (And.intro hE0 hb0)
      clear hw0 hE0 hb0
      refine (raw_fresh wordOp 0 4 w0).mono ?_
      rintro e w2 ⟨g, g', rfl, ⟨hg1, hg2, hg3, hg4⟩, hcg, hcg', hb2⟩
      obtain ⟨⟨hf0, hf1, hf2⟩, hc0, hc1, hc2⟩ := (HE.out.1.next hb2).facts
      have HB2 := Lib.hid (And.intro hcg (And.intro hcg' (HE.out.2.trans (hb2.mono (by omega)))))
      clear hb2 hcg hcg'
      go_wp2_with fail
      refine bodyPost_ret (v := .agg #[.int .i64 4, .slice (some ⟨g, 0, none⟩) 1 1, .slice (some ⟨g', 0, none⟩) 1 1]) (by simp [results, Tryz.results51, go_sem, hc0, hc1, hc2]) rfl ⟨_, rfl, g, g', rfl, ⟨by omega, by omega⟩, ?_, ?_⟩
      · exact WantV.one (by simp; omega) (by simp; omega) ((put3_cell w2 w.heap.size _ _ _ _ (by simp; omega)).trans HB2.out.1) ((put3_cell w2 w.heap.size _ _ _ _ (by simp; omega)).trans HB2.out.2.1)
      · exact put3_below HB2.out.2.2 (Nat.le_refl _) _ _ _
    · obtain ⟨i', hi, he⟩ := Option.map_eq_some_iff.1 hc
      obtain ⟨rfl, rfl⟩ := Prod.mk.inj he
      obtain ⟨hil, hbad, hall⟩ := List.findIdx?_eq_some_iff_getElem.1 hi
      have hn4 : n ≤ 4096 := by omega
      have hin : i' < n := by omega
      have H := Lib.hid (And.intro h (And.intro hn (And.intro hbad hall)))
      have hk1 : ¬ k < 1 := by omega
      have hk4 : ¬ 4 < k := by omega
      clear h hn hle hc hi he hbad hall
      go_enter Tryz.func51, Tryz.ntmps51
      go_wp2_with fail
      obtain ⟨w0, hw0⟩ : ∃ w0, w0 = w.alloc (.cells #[.int .i64 0, .slice none 0 0, .slice none 0 0] 32) := ⟨_, rfl⟩
      have hb0 : Below w.heap.size w w0 := by rw [hw0]; exact (Below.refl _ _).alloc (Nat.le_refl _) _
      have hs0 : w.heap.size < w0.heap.size := by rw [hw0]; simp
      have hE0 : Err3 w0 w.heap.size (.int .i64 0) (.slice none 0 0) (.slice none 0 0) := by rw [hw0]; exact Err3.new w
      rw [← hw0]
      have HE := Lib.hid (And.intro hE0 hb0)
      clear hw0 hE0 hb0
      go_loop [5] (fun v => ∃ j : Nat, j ≤ i' ∧ v = .int .i64 (j : Int)) (fun v => n - (intOf v).toNat)
      case atStart => exact ⟨0, Nat.zero_le _, rfl⟩
      case round =>
        obtain ⟨j, hj, rfl⟩ := hrel
        have hne : l ≠ [] := by rintro rfl; simp at hil
        obtain ⟨b, off, rfl, hb, hc⟩ := H.out.1.cell hne
        by_cases hlt : j < i'
        · have hx : l[j]? = some l[j] := List.getElem?_eq_getElem (by omega)
          have hg := H.out.2.2.2 j hlt
          obtain ⟨x, hxx⟩ : ∃ x, l[j] = x := ⟨_, rfl⟩
          rw [hxx] at hx hg
          have hcx : w0.cell? ⟨b, off + j, none⟩ = some (.int .i64 x) := (HE.out.2.cell (p := ⟨b, off + j, none⟩) hb).trans (hc j x hx)
          unfold badAt at hg
          simp at hg
          have hx1 : ¬ x < 0 := by omega
          have hx2 : ¬ k ≤ x := by omega
          clear hc hx hne hg hxx
          go_wp2_with fail
          go_round
          case rel => exact ⟨j + 1, by omega, by go_num⟩
          case measure => simp [intOf]; omega
        · obtain rfl : j = i' := by omega
          have hx : l[j]? = some l[j] := List.getElem?_eq_getElem (by omega)
          have hg := H.out.2.2.1
          obtain ⟨x, hxx⟩ : ∃ x, l[j] = x := ⟨_, rfl⟩
          rw [hxx] at hx hg
          have hcx : w0.cell? ⟨b, off + j, none⟩ = some (.int .i64 x) := (HE.out.2.cell (p := ⟨b, off + j, none⟩) hb).trans (hc j x hx)
          unfold badAt at hg
          simp at hg
          clear hc hx hne hxx
          rcases Int.lt_or_le x 0 with hx1 | hx1
          · clear hg
            go_wp2_with fail
            refine (raw_fresh wordOp j 2 w0).mono ?_
            rintro e w2 ⟨g, g', rfl, ⟨hg1, hg2, hg3, hg4⟩, hcg, hcg', hb2⟩
            obtain ⟨⟨hf0, hf1, hf2⟩, hc0, hc1, hc2⟩ := (HE.out.1.next hb2).facts
            have HB2 := Lib.hid (And.intro hcg (And.intro hcg' (HE.out.2.trans (hb2.mono (by omega)))))
            clear hb2 hcg hcg'
            go_wp2_with fail
            refine bodyPost_ret (v := .agg #[.int .i64 2, .slice (some ⟨g, 0, none⟩) 1 1, .slice (some ⟨g', 0, none⟩) 1 1]) (by simp [results, Tryz.results51, go_sem, hc0, hc1, hc2]) rfl ⟨_, rfl, g, g', rfl, ⟨by omega, by omega⟩, ?_, ?_⟩
            · exact WantV.one (by simp; omega) (by simp; omega) ((put3_cell w2 w.heap.size _ _ _ _ (by simp; omega)).trans HB2.out.1) ((put3_cell w2 w.heap.size _ _ _ _ (by simp; omega)).trans HB2.out.2.1)
            · exact put3_below HB2.out.2.2 (Nat.le_refl _) _ _ _
          · have hx1' : ¬ x < 0 := by omega
            have hx2 : k ≤ x := by omega
            clear hg
            go_wp2_with fail
            refine (raw_fresh wordOp j 2 w0).mono ?_
            rintro e w2 ⟨g, g', rfl, ⟨hg1, hg2, hg3, hg4⟩, hcg, hcg', hb2⟩
            obtain ⟨⟨hf0, hf1, hf2⟩, hc0, hc1, hc2⟩ := (HE.out.1.next hb2).facts
            have HB2 := Lib.hid (And.intro hcg (And.intro hcg' (HE.out.2.trans (hb2.mono (by omega)))))
            clear hb2 hcg hcg'
            go_wp2_with fail
            refine bodyPost_ret (v := .agg #[.int .i64 2, .slice (some ⟨g, 0, none⟩) 1 1, .slice (some ⟨g', 0, none⟩) 1 1]) (by simp [results, Tryz.results51, go_sem, hc0, hc1, hc2]) rfl ⟨_, rfl, g, g', rfl, ⟨by omega, by omega⟩, ?_, ?_⟩
            · exact WantV.one (by simp; omega) (by simp; omega) ((put3_cell w2 w.heap.size _ _ _ _ (by simp; omega)).trans HB2.out.1) ((put3_cell w2 w.heap.size _ _ _ _ (by simp; omega)).trans HB2.out.2.1)
            · exact put3_below HB2.out.2.2 (Nat.le_refl _) _ _ _
end Go.Proofs.YtgdjnohhofbcnaaGreatDoor
end
section
namespace Go.Proofs.YtgdjnohhofbcnaaGreatDoor
open Go.RowKit Go.Extern.Stop Go.Stop Go.Extern WordM RuleM NatM
attribute [local go_sem ↓] Go.wp_at_zero Go.wp_at_succ

/-- an Err of package rule: its number k at place pl; its two slices are new -/
def RefErrR (w : World) (pl k : Int) (v : Value) (w' : World) : Prop :=
  ∃ g g', v = .agg #[.int .i64 k, .slice (some ⟨g, 0, none⟩) 1 1, .slice (some ⟨g', 0, none⟩) 1 1] ∧ (w.heap.size ≤ g ∧ w.heap.size ≤ g') ∧ WantV w' (some ⟨g, 0, none⟩) (some ⟨g', 0, none⟩) 1 1 [(ruleOp, pl)] ∧ Below w.heap.size w w'
def RefErrR1 (w : World) (pl k : Int) (e : Ending) (w' : World) : Prop := ∃ v, e = .returned v ∧ RefErrR w pl k v w'
/-- refused: the zero value v0, and the error -/
def RefErrR2 (w : World) (v0 : Value) (pl k : Int) (e : Ending) (w' : World) : Prop := ∃ v, e = .returned (.tuple #[v0, v]) ∧ RefErrR w pl k v w'
theorem RefErrR.laid {w wx w2 : World} {h g g' : Nat} {pl k : Int} (hb : Below w.heap.size w wx) (hh : w.heap.size ≤ h) (hlt : h < wx.heap.size) (hg : wx.heap.size ≤ g ∧ g < w2.heap.size ∧ wx.heap.size ≤ g' ∧ g' < w2.heap.size)
    (hc : w2.cell? ⟨g, 0, none⟩ = some (.string ruleOp)) (hc' : w2.cell? ⟨g', 0, none⟩ = some (.int .i64 pl)) (hb2 : Below wx.heap.size wx w2) (a b c : Value) :
    RefErrR w pl k (.agg #[.int .i64 k, .slice (some ⟨g, 0, none⟩) 1 1, .slice (some ⟨g', 0, none⟩) 1 1]) (put3 w2 h a b c) := by
  have hs := hb.size
  refine ⟨g, g', rfl, ⟨by omega, by omega⟩, ?_, put3_below (hb.trans (hb2.mono hs)) hh _ _ _⟩
  exact WantV.put3 (WantV.one hg.2.1 hg.2.2.2 hc hc') (by omega) (by omega) _ _ _
theorem Err3.lt {w : World} {h : Nat} {a b c : Value} (k : Err3 w h a b c) : h < w.heap.size := heap_ltN k.heap
theorem start_err (w w0 : World) (hw0 : w0 = w.alloc (.cells #[.int .i64 0, .slice none 0 0, .slice none 0 0] 32)) : Below w.heap.size w w0 ∧ Err3 w0 w.heap.size (.int .i64 0) (.slice none 0 0) (.slice none 0 0) :=
  ⟨by rw [hw0]; exact (Below.refl _ _).alloc (Nat.le_refl _) _, by rw [hw0]; exact Err3.new w⟩
theorem start_both (w : World) (a b c : Value) (w0 : World) (hw0 : w0 = (w.alloc (.cells #[a, b, c] 24)).alloc (.cells #[.int .i64 0, .slice none 0 0, .slice none 0 0] 32)) :
    Below w.heap.size w w0 ∧ Rul3 w0 w.heap.size a b c ∧ Err3 w0 (w.heap.size + 1) (.int .i64 0) (.slice none 0 0) (.slice none 0 0) := by
  have h1 : Below w.heap.size w (w.alloc (.cells #[a, b, c] 24)) := (Below.refl _ _).alloc (Nat.le_refl _) _
  obtain ⟨h2, h3⟩ := start_err (w.alloc (.cells #[a, b, c] 24)) w0 hw0
  have hs : (w.alloc (.cells #[a, b, c] 24)).heap.size = w.heap.size + 1 := by simp
  rw [hs] at h3
  exact ⟨h1.trans (h2.mono h1.size), (Rul3.new w a b c).next h2, h3⟩

theorem small_pow7 {k j : Nat} (h4 : k ≤ 4) (h : j ≤ 7) : k ^ j ≤ 16384 := Nat.le_trans (Nat.pow_le_pow_left h4 _) (Nat.le_trans (Nat.pow_le_pow_right (by omega) h) (by decide))
set_option maxHeartbeats 1000000 in
theorem power_ref (k n : Nat) (w : World) (h4 : k ≤ 4) (h7 : n ≤ 7) :
    Calls Tryz.prog 100 #[.int .i64 (k : Int), .int .i64 (n : Int)] w fun e w' => e = .returned (.int .i64 ((k ^ n : Nat) : Int)) ∧ w = w' := by
  go_enter Tryz.func100, Tryz.ntmps100
  go_wp2_with fail
  go_loop [5, 6] (fun v5 v6 => ∃ j : Nat, j ≤ n ∧ v6 = .int .i64 (j : Int) ∧ v5 = .int .i64 ((k ^ j : Nat) : Int)) (fun _ v => n - (intOf v).toNat)
  case atStart => exact ⟨0, Nat.zero_le _, rfl, by simp⟩
  case round =>
    obtain ⟨j, hj, rfl, rfl⟩ := hrel
    by_cases hlt : j < n
    · have hs := small_pow7 (j := j) h4 (by omega)
      have hn := Nat.pow_succ k j
      obtain ⟨s, hs'⟩ : ∃ s, k ^ j = s := ⟨_, rfl⟩
      rw [hs'] at hn hs ⊢
      have hsq : s * k ≤ 16384 * 4 := Nat.mul_le_mul hs h4
      have hsm : ((s : Int) * (k : Int)) = ((s * k : Nat) : Int) := by push_cast; rfl
      obtain ⟨u, hu⟩ : ∃ u, s * k = u := ⟨_, rfl⟩
      rw [hu] at hsq hsm hn
      have w2 : IntKind.i64.wrap ((s : Int) * (k : Int)) = (u : Int) := by rw [hsm, IntWalk.i64_in _ (by omega)]
      have HU := Lib.hid hn
      clear hn hs' hsm hu
      go_wp2_with fail
      go_round
      case rel => exact ⟨j + 1, by omega, by go_num, by rw [HU.out]⟩
      case measure => simp [intOf]; omega
    · obtain rfl : j = n := by omega
      go_wp2_with fail
      go_ret
      exact ⟨rfl, rfl⟩

/-- the place of the first number that is none of k symbols; -1, where there is none -/
def badN (k : Int) (l : List Int) : Int := match l.findIdx? (badAt k) with
  | some i => (i : Int)
  | none => -1
theorem badN_ok {k : Nat} {l : List Int} (h : okW k l) : badN k l = -1 := by unfold badN; rw [bad_none.2 h]
theorem badN_bad {k : Int} {l : List Int} {i : Nat} (h : l.findIdx? (badAt k) = some i) : badN k l = (i : Int) := by unfold badN; rw [h]
theorem bad_ref (k : Int) (p : Option Addr) (n c : Nat) (l : List Int) (w : World) (hn : n = l.length) (h : IntV w.heap.size w p c l) :
    Calls Tryz.prog 164 #[.int .i64 k, .slice p n c] w fun e w' => e = .returned (.int .i64 (badN k l)) ∧ w = w' := by
  have hle := h.le
  have hcap := h.cap
  unfold maxLen at hcap
  have hnc : n ≤ c := by omega
  obtain ⟨z, hz⟩ : ∃ z, badN k l = z := ⟨_, rfl⟩
  rw [hz]
  unfold badN at hz
  have hcases : (z = -1 ∧ ∀ (j : Nat) (x : Int), l[j]? = some x → badAt k x = false) ∨ (∃ i : Nat, z = i ∧ i < n ∧ (∃ x : Int, l[i]? = some x ∧ badAt k x = true) ∧ ∀ (j : Nat) (x : Int), j < i → l[j]? = some x → badAt k x = false) := by
    cases hf : l.findIdx? (badAt k) with
    | none =>
      rw [hf] at hz
      left
      refine ⟨hz.symm, fun j x hx => ?_⟩
      rw [List.findIdx?_eq_none_iff] at hf
      exact hf x (List.mem_of_getElem? hx)
    | some i =>
      rw [hf] at hz
      obtain ⟨hil, hbad, hall⟩ := List.findIdx?_eq_some_iff_getElem.1 hf
      right
      refine ⟨i, hz.symm, by omega, ⟨_, List.getElem?_eq_getElem hil, hbad⟩, fun j x hj hx => ?_⟩
      have := hall j hj
      rw [List.getElem?_eq_getElem (by omega)] at hx
      obtain rfl := Option.some.inj hx
      simpa using this
  have H := Lib.hid (And.intro h hn)
  clear h hz hn hle
  rcases hcases with ⟨rfl, hall⟩ | ⟨i, rfl, hin, ⟨xb, hxb, hxb'⟩, hall⟩
  · have HA := Lib.hid hall
    clear hall
    go_enter Tryz.func164, Tryz.ntmps164
    go_wp2_with fail
    go_loop [5] (fun v => ∃ j : Nat, j ≤ n ∧ v = .int .i64 (j : Int)) (fun v => n - (intOf v).toNat)
    case atStart => exact ⟨0, Nat.zero_le _, rfl⟩
    case round =>
      obtain ⟨j, hj, rfl⟩ := hrel
      by_cases hlt : j < n
      · have hnl := H.out.2
        obtain ⟨b, off, rfl, hb, hc⟩ := H.out.1.cell (by rintro rfl; simp at hnl; omega)
        obtain ⟨x, hx⟩ := getI (l := l) (k := j) (by omega)
        have hcx := hc j x hx
        have hg := HA.out j x hx
        unfold badAt at hg
        simp at hg
        have hx1 : ¬ x < 0 := by omega
        have hx2 : ¬ k ≤ x := by omega
        clear hc hx hg hnl
        go_wp2_with fail
        go_round
        case rel => exact ⟨j + 1, by omega, by go_num⟩
        case measure => simp [intOf]; omega
      · obtain rfl : j = n := by omega
        go_wp2_with fail
        go_ret
        exact ⟨rfl, rfl⟩
  · have HA := Lib.hid (And.intro hall (And.intro hxb hxb'))
    clear hall hxb hxb'
    go_enter Tryz.func164, Tryz.ntmps164
    go_wp2_with fail
    go_loop [5] (fun v => ∃ j : Nat, j ≤ i ∧ v = .int .i64 (j : Int)) (fun v => n - (intOf v).toNat)
    case atStart => exact ⟨0, Nat.zero_le _, rfl⟩
    case round =>
      obtain ⟨j, hj, rfl⟩ := hrel
      have hnl := H.out.2
      obtain ⟨b, off, rfl, hb, hc⟩ := H.out.1.cell (by rintro rfl; simp at hnl; omega)
      by_cases hlt : j < i
      · obtain ⟨x, hx⟩ := getI (l := l) (k := j) (by omega)
        have hcx := hc j x hx
        have hg := HA.out.1 j x hlt hx
        unfold badAt at hg
        simp at hg
        have hx1 : ¬ x < 0 := by omega
        have hx2 : ¬ k ≤ x := by omega
        clear hc hx hg hnl
        go_wp2_with fail
        go_round
        case rel => exact ⟨j + 1, by omega, by go_num⟩
        case measure => simp [intOf]; omega
      · obtain rfl : j = i := by omega
        have hcx := hc j xb HA.out.2.1
        have hg := HA.out.2.2
        unfold badAt at hg
        simp at hg
        clear hc hnl
        rcases Int.lt_or_le xb 0 with hx1 | hx1
        · clear hg
          go_wp2_with fail
          go_ret
          exact ⟨rfl, rfl⟩
        · have hx2 : k ≤ xb := by omega
          have hx3 : ¬ xb < 0 := by omega
          clear hg
          go_wp2_with fail
          go_ret
          exact ⟨rfl, rfl⟩

/-- how many windows, and no error -/
def SizeRef (w : World) (n : Nat) (e : Ending) (w' : World) : Prop := e = .returned (.tuple #[.int .i64 (n : Int), noErr]) ∧ Below w.heap.size w w'
set_option maxRecDepth 100000 in
set_option maxHeartbeats 2000000 in
theorem size_ref_ok (k r : Nat) (w : World) (h1 : 1 ≤ k) (h4 : k ≤ 4) (h3 : r ≤ 3) :
    Calls Tryz.prog 39 #[.int .i64 (k : Int), .int .i64 (r : Int)] w (SizeRef w (k ^ (2 * r + 1))) := by
  obtain ⟨R2, hR2⟩ : ∃ R2 : Nat, 2 * r = R2 := ⟨_, rfl⟩
  obtain ⟨M, hM⟩ : ∃ M : Nat, R2 + 1 = M := ⟨_, rfl⟩
  have hpw := fun W => power_ref k M W h4 (by omega)
  obtain ⟨S, hS⟩ : ∃ S, k ^ (2 * r + 1) = S := ⟨_, rfl⟩
  rw [hS]
  rw [hR2, hM] at hS
  simp only [hS] at hpw
  have w2r : IntKind.i64.wrap (2 * (r : Int)) = (R2 : Int) := by rw [IntWalk.i64_in _ (by omega)]; omega
  have wR : IntKind.i64.wrap ((R2 : Int) + 1) = (M : Int) := by rw [IntWalk.i64_in _ (by omega)]; omega
  have H := Lib.hid hpw
  clear hpw hS hR2 hM
  go_enter Tryz.func39, Tryz.ntmps39
  go_wp2_with fail
  obtain ⟨w0, hw0⟩ : ∃ w0, w0 = w.alloc (.cells #[.int .i64 0, .slice none 0 0, .slice none 0 0] 32) := ⟨_, rfl⟩
  rw [← hw0]
  obtain ⟨hb0, hE0⟩ := start_err w w0 hw0
  obtain ⟨⟨hf0, hf1, hf2⟩, hc0, hc1, hc2⟩ := hE0.facts
  have HE := Lib.hid hb0
  clear hw0 hE0 hb0
  refine (H.out w0).mono ?_
  rintro e w1 ⟨rfl, rfl⟩
  go_wp2_with fail
  refine bodyPost_ret (v := .tuple #[.int .i64 (S : Int), noErr]) (by simp [results, Tryz.results39, go_sem, hc0, hc1, hc2, noErr]) rfl ⟨rfl, ?_⟩
  exact put3_below HE.out (Nat.le_refl _) _ _ _
set_option maxRecDepth 100000 in
set_option maxHeartbeats 2000000 in
theorem size_ref_bad (k r : Int) (w : World) (h : (k < 1 ∨ 4 < k) ∨ r < 0 ∨ 3 < r) :
    Calls Tryz.prog 39 #[.int .i64 k, .int .i64 r] w (RefErrR2 w (.int .i64 0) 0 3) := by
  rcases (by omega : k < 1 ∨ (¬ k < 1 ∧ 4 < k) ∨ (¬ k < 1 ∧ ¬ 4 < k ∧ r < 0) ∨ (¬ k < 1 ∧ ¬ 4 < k ∧ ¬ r < 0 ∧ 3 < r)) with h1 | ⟨h1, h2⟩ | ⟨h1, h2, h3⟩ | ⟨h1, h2, h3, h4⟩
  all_goals
    clear h
    go_enter Tryz.func39, Tryz.ntmps39
    go_wp2_with fail
    obtain ⟨w0, hw0⟩ : ∃ w0, w0 = w.alloc (.cells #[.int .i64 0, .slice none 0 0, .slice none 0 0] 32) := ⟨_, rfl⟩
    rw [← hw0]
    obtain ⟨hb0, hE0⟩ := start_err w w0 hw0
    have HE := Lib.hid (And.intro hE0 hb0)
    clear hw0 hE0 hb0
    refine (raw_fresh ruleOp 0 3 w0).mono ?_
    rintro e w2 ⟨g, g', rfl, hg, hcg, hcg', hb2⟩
    obtain ⟨⟨hf0, hf1, hf2⟩, hc0, hc1, hc2⟩ := (HE.out.1.next hb2).facts
    have HB := Lib.hid (RefErrR.laid (k := 3) HE.out.2 (Nat.le_refl _) HE.out.1.lt hg hcg hcg' hb2)
    clear hb2 hcg hcg' hg
    go_wp2_with fail
    refine bodyPost_ret (v := .tuple #[.int .i64 0, .agg #[.int .i64 3, .slice (some ⟨g, 0, none⟩) 1 1, .slice (some ⟨g', 0, none⟩) 1 1]]) (by simp [results, Tryz.results39, go_sem, hc0, hc1, hc2]) rfl ⟨_, rfl, ?_⟩
    exact HB.out _ _ _
end Go.Proofs.YtgdjnohhofbcnaaGreatDoor
end
section
namespace Go.Proofs.YtgdjnohhofbcnaaGreatDoor
open Go.RowKit Go.Extern.Stop Go.Stop Go.Extern WordM RuleM NatM
attribute [local go_sem ↓] Go.wp_at_zero Go.wp_at_succ

set_option maxRecDepth 100000 in
set_option maxHeartbeats 4000000 in
theorem rcheck_ref_ok (K R : Nat) (p : Option Addr) (n c : Nat) (t : List Int) (w : World) (hn : n = t.length) (h : IntV w.heap.size w p c t) (ho : OkR K R t) :
    Calls Tryz.prog 144 #[.agg #[.int .i64 (K : Int), .int .i64 (R : Int), .slice p n c]] w (Tells noErr w) := by
  have h1 := ho.k1
  have h4 := ho.k4
  have h3 := ho.r3
  have hk1 : ¬ (K : Int) < 1 := by omega
  have hk4 : ¬ (4 : Int) < K := by omega
  have hr3 : ¬ (3 : Int) < R := by omega
  obtain ⟨R2, hR2⟩ : ∃ R2 : Nat, 2 * R = R2 := ⟨_, rfl⟩
  obtain ⟨M, hM⟩ : ∃ M : Nat, R2 + 1 = M := ⟨_, rfl⟩
  have hpw := fun W => power_ref K M W h4 (by omega)
  have hKM : K ^ M = n := by rw [← hM, ← hR2, ← ho.len, hn]
  simp only [hKM] at hpw
  have hcap := h.cap
  have hle := h.le
  unfold maxLen at hcap
  have hn63 : n ≤ 9223372036854775807 := by omega
  have w2r : IntKind.i64.wrap (2 * (R : Int)) = (R2 : Int) := by rw [IntWalk.i64_in _ (by omega)]; omega
  have wR : IntKind.i64.wrap ((R2 : Int) + 1) = (M : Int) := by rw [IntWalk.i64_in _ (by omega)]; omega
  have HP := Lib.hid hpw
  have hbn := badN_ok ho.ok
  have H := Lib.hid (And.intro h (And.intro hn hbn))
  clear hpw h hn ho hKM hbn hM hR2 hcap hle

  go_enter Tryz.func144, Tryz.ntmps144
  go_upto_region 1 with fail
  obtain ⟨w0, hw0⟩ : ∃ w0, w0 = (w.alloc (.cells #[.int .i64 (K : Int), .int .i64 (R : Int), .slice p n c] 24)).alloc (.cells #[.int .i64 0, .slice none 0 0, .slice none 0 0] 32) := ⟨_, rfl⟩
  obtain ⟨hb0, hR0, hE0⟩ := start_both w _ _ _ w0 hw0
  rw [← hw0]
  have hszb : (w.alloc (.cells #[.int .i64 (K : Int), .int .i64 (R : Int), .slice p n c] 24)).heap.size = w.heap.size + 1 := by simp
  obtain ⟨_, hr0, hr1, hr2⟩ := hR0.facts
  have HE := Lib.hid (And.intro hR0 (And.intro hE0 hb0))
  clear hw0 hR0 hE0 hb0
  go_wp2_with fail
  have hd0 : Below w0.heap.size w0 w0.drew := (Below.refl _ _).drew
  have hxA : ∀ wx : World, Below w0.heap.size w0 wx → wx.cell? ⟨w.heap.size, 0, none⟩ = some (.int .i64 (K : Int)) := fun wx hbx => (HE.out.1.next hbx).facts.2.1
  have hxB : ∀ wx : World, Below w0.heap.size w0 wx → wx.cell? ⟨w.heap.size, 1, none⟩ = some (.int .i64 (R : Int)) := fun wx hbx => (HE.out.1.next hbx).facts.2.2.1
  have hxC : ∀ wx : World, Below w0.heap.size w0 wx → wx.cell? ⟨w.heap.size, 2, none⟩ = some (.slice p n c) := fun wx hbx => (HE.out.1.next hbx).facts.2.2.2
  go_region_held3 (fun w' => w'.cell? ⟨w.heap.size, 0, none⟩ = some (.int .i64 (K : Int)) ∧ w'.cell? ⟨w.heap.size, 1, none⟩ = some (.int .i64 (R : Int)) ∧ w'.cell? ⟨w.heap.size, 2, none⟩ = some (.slice p n c)) (first | exact ⟨hxA _ hd0, hxB _ hd0, hxC _ hd0⟩ | go_keep) (first
    | (go_at_call 100; refine (HP.out _).mono ?_; rintro e w9 ⟨rfl, rfl⟩))
  all_goals
    obtain ⟨wd, hwd⟩ : ∃ x, x = w0.drew := ⟨_, rfl⟩
    rw [← hwd]
    have hdr : Err3 wd (w.heap.size + 1) (.int .i64 0) (.slice none 0 0) (.slice none 0 0) := by rw [hwd]; exact HE.out.2.1.next hd0
    have hbd : Below w.heap.size w wd := by rw [hwd]; exact HE.out.2.2.trans (hd0.mono HE.out.2.2.size)
    have hxd : Rul3 wd w.heap.size (.int .i64 (K : Int)) (.int .i64 (R : Int)) (.slice p n c) := by rw [hwd]; exact HE.out.1.next hd0
    clear hr0 hr1 hr2
    obtain ⟨_, hr0, hr1, hr2⟩ := hxd.facts
    have HD := Lib.hid (And.intro hdr (And.intro hbd hxd))
    clear hdr hbd hxd hxA hxB hxC hd0 hwd
    go_wp2_with fail
    refine (bad_ref (K : Int) p n c t wd H.out.2.1 (H.out.1.next HD.out.2.1)).mono ?_
    rintro e w1 ⟨rfl, rfl⟩
    rw [H.out.2.2]
    obtain ⟨⟨hf0, hf1, hf2⟩, hc0, hc1, hc2⟩ := HD.out.1.facts
    go_wp2_with fail
    refine bodyPost_ret (v := noErr) (by simp [results, Tryz.results144, go_sem, hc0, hc1, hc2, noErr]) rfl ⟨rfl, ?_⟩
    exact put3_below HD.out.2.1 (Nat.le_succ _) _ _ _

set_option maxRecDepth 100000 in
set_option maxHeartbeats 8000000 in
theorem rcheck_ref_bad (k r : Int) (p : Option Addr) (n c : Nat) (t : List Int) (w : World) (hn : n = t.length) (h : IntV w.heap.size w p c t) (i : Nat) (hc : chkR k r t = some i) :
    Calls Tryz.prog 144 #[.agg #[.int .i64 k, .int .i64 r, .slice p n c]] w (RefErrR1 w i 1) := by
  have hcap := h.cap
  have hle := h.le
  unfold maxLen at hcap
  have hn63 : n ≤ 9223372036854775807 := by omega
  clear hcap hle
  unfold chkR at hc
  split at hc
  · obtain rfl := Option.some.inj hc
    rename_i hk
    clear h hn hc
    rcases (by omega : k < 1 ∨ (¬ k < 1 ∧ 4 < k)) with h1 | ⟨h1, h2⟩
    all_goals
      clear hk
      go_enter Tryz.func144, Tryz.ntmps144
      go_upto_region 1 with fail
      obtain ⟨w0, hw0⟩ : ∃ w0, w0 = (w.alloc (.cells #[.int .i64 k, .int .i64 r, .slice p n c] 24)).alloc (.cells #[.int .i64 0, .slice none 0 0, .slice none 0 0] 32) := ⟨_, rfl⟩
      obtain ⟨hb0, hR0, hE0⟩ := start_both w _ _ _ w0 hw0
      rw [← hw0]
      have hszb : (w.alloc (.cells #[.int .i64 k, .int .i64 r, .slice p n c] 24)).heap.size = w.heap.size + 1 := by simp
      obtain ⟨_, hr0, hr1, hr2⟩ := hR0.facts
      have HE := Lib.hid (And.intro hR0 (And.intro hE0 hb0))
      clear hw0 hR0 hE0 hb0
      go_wp2_with fail
      refine (raw_fresh ruleOp 0 1 w0).mono ?_
      rintro e w2 ⟨g, g', rfl, hg, hcg, hcg', hb2⟩
      obtain ⟨⟨hf0, hf1, hf2⟩, hc0, hc1, hc2⟩ := (HE.out.2.1.next hb2).facts
      have HB := Lib.hid (RefErrR.laid (k := 1) HE.out.2.2 (Nat.le_succ _) HE.out.2.1.lt hg hcg hcg' hb2)
      clear hb2 hcg hcg' hg
      go_wp2_with fail
      refine bodyPost_ret (v := .agg #[.int .i64 1, .slice (some ⟨g, 0, none⟩) 1 1, .slice (some ⟨g', 0, none⟩) 1 1]) (by simp [results, Tryz.results144, go_sem, hc0, hc1, hc2]) rfl ⟨_, rfl, ?_⟩
      exact HB.out _ _ _
  · rename_i hk
    have h1 : ¬ k < 1 := by omega
    have h4 : ¬ 4 < k := by omega
    split at hc
    · obtain rfl := Option.some.inj hc
      rename_i hrr
      clear h hn hc hk
      rcases (by omega : r < 0 ∨ (¬ r < 0 ∧ 3 < r)) with h2 | ⟨h2, h3⟩
      all_goals
        clear hrr
        go_enter Tryz.func144, Tryz.ntmps144
        go_upto_region 1 with fail
        obtain ⟨w0, hw0⟩ : ∃ w0, w0 = (w.alloc (.cells #[.int .i64 k, .int .i64 r, .slice p n c] 24)).alloc (.cells #[.int .i64 0, .slice none 0 0, .slice none 0 0] 32) := ⟨_, rfl⟩
        obtain ⟨hb0, hR0, hE0⟩ := start_both w _ _ _ w0 hw0
        rw [← hw0]
        have hszb : (w.alloc (.cells #[.int .i64 k, .int .i64 r, .slice p n c] 24)).heap.size = w.heap.size + 1 := by simp
        obtain ⟨_, hr0, hr1, hr2⟩ := hR0.facts
        have HE := Lib.hid (And.intro hR0 (And.intro hE0 hb0))
        clear hw0 hR0 hE0 hb0
        go_wp2_with fail
        refine (raw_fresh ruleOp 1 1 w0).mono ?_
        rintro e w2 ⟨g, g', rfl, hg, hcg, hcg', hb2⟩
        obtain ⟨⟨hf0, hf1, hf2⟩, hc0, hc1, hc2⟩ := (HE.out.2.1.next hb2).facts
        have HB := Lib.hid (RefErrR.laid (k := 1) HE.out.2.2 (Nat.le_succ _) HE.out.2.1.lt hg hcg hcg' hb2)
        clear hb2 hcg hcg' hg
        go_wp2_with fail
        refine bodyPost_ret (v := .agg #[.int .i64 1, .slice (some ⟨g, 0, none⟩) 1 1, .slice (some ⟨g', 0, none⟩) 1 1]) (by simp [results, Tryz.results144, go_sem, hc0, hc1, hc2]) rfl ⟨_, rfl, ?_⟩
        exact HB.out _ _ _
    · rename_i hrr
      obtain ⟨K, rfl⟩ : ∃ K : Nat, k = K := ⟨k.toNat, by omega⟩
      obtain ⟨R, rfl⟩ : ∃ R : Nat, r = R := ⟨r.toNat, by omega⟩
      have hk4 : K ≤ 4 := by omega
      have hr0' : ¬ (R : Int) < 0 := by omega
      have hr3 : ¬ (3 : Int) < R := by omega
      obtain ⟨R2, hR2⟩ : ∃ R2 : Nat, 2 * R = R2 := ⟨_, rfl⟩
      obtain ⟨M, hM⟩ : ∃ M : Nat, R2 + 1 = M := ⟨_, rfl⟩
      have hpw := fun W => power_ref K M W hk4 (by omega)
      obtain ⟨S, hS⟩ : ∃ S, K ^ M = S := ⟨_, rfl⟩
      have hSle : S ≤ 16384 := by rw [← hS]; exact small_pow7 hk4 (by omega)
      simp only [hS] at hpw
      rw [Int.toNat_natCast, Int.toNat_natCast, hR2, hM, hS] at hc
      have w2r : IntKind.i64.wrap (2 * (R : Int)) = (R2 : Int) := by rw [IntWalk.i64_in _ (by omega)]; omega
      have wR : IntKind.i64.wrap ((R2 : Int) + 1) = (M : Int) := by rw [IntWalk.i64_in _ (by omega)]; omega
      clear hR2 hM hS hk hrr
      split at hc
      · obtain rfl := Option.some.inj hc
        rename_i hlen
        have HP := Lib.hid hpw
        have hnS : ((n : Int) == (S : Int)) = false := by rw [beq_eq_false_iff_ne]; omega
        have hnS' : ((n : Int) != (S : Int)) = true := by rw [bne, hnS]; rfl
        clear hpw h hn hc hlen
        go_enter Tryz.func144, Tryz.ntmps144
        go_upto_region 1 with fail
        obtain ⟨w0, hw0⟩ : ∃ w0, w0 = (w.alloc (.cells #[.int .i64 (K : Int), .int .i64 (R : Int), .slice p n c] 24)).alloc (.cells #[.int .i64 0, .slice none 0 0, .slice none 0 0] 32) := ⟨_, rfl⟩
        obtain ⟨hb0, hR0, hE0⟩ := start_both w _ _ _ w0 hw0
        rw [← hw0]
        have hszb : (w.alloc (.cells #[.int .i64 (K : Int), .int .i64 (R : Int), .slice p n c] 24)).heap.size = w.heap.size + 1 := by simp
        obtain ⟨_, hr0, hr1, hr2⟩ := hR0.facts
        have HE := Lib.hid (And.intro hR0 (And.intro hE0 hb0))
        clear hw0 hR0 hE0 hb0
        go_wp2_with fail
        have hd0 : Below w0.heap.size w0 w0.drew := (Below.refl _ _).drew
        have hxA : ∀ wx : World, Below w0.heap.size w0 wx → wx.cell? ⟨w.heap.size, 0, none⟩ = some (.int .i64 (K : Int)) := fun wx hbx => (HE.out.1.next hbx).facts.2.1
        have hxB : ∀ wx : World, Below w0.heap.size w0 wx → wx.cell? ⟨w.heap.size, 1, none⟩ = some (.int .i64 (R : Int)) := fun wx hbx => (HE.out.1.next hbx).facts.2.2.1
        have hxC : ∀ wx : World, Below w0.heap.size w0 wx → wx.cell? ⟨w.heap.size, 2, none⟩ = some (.slice p n c) := fun wx hbx => (HE.out.1.next hbx).facts.2.2.2
        go_region_held3 (fun w' => w'.cell? ⟨w.heap.size, 0, none⟩ = some (.int .i64 (K : Int)) ∧ w'.cell? ⟨w.heap.size, 1, none⟩ = some (.int .i64 (R : Int)) ∧ w'.cell? ⟨w.heap.size, 2, none⟩ = some (.slice p n c)) (first | exact ⟨hxA _ hd0, hxB _ hd0, hxC _ hd0⟩ | go_keep) (first
          | (go_at_call 100; refine (HP.out _).mono ?_; rintro e w9 ⟨rfl, rfl⟩))
        all_goals
          obtain ⟨wd, hwd⟩ : ∃ x, x = w0.drew := ⟨_, rfl⟩
          rw [← hwd]
          have hdr : Err3 wd (w.heap.size + 1) (.int .i64 0) (.slice none 0 0) (.slice none 0 0) := by rw [hwd]; exact HE.out.2.1.next hd0
          have hbd : Below w.heap.size w wd := by rw [hwd]; exact HE.out.2.2.trans (hd0.mono HE.out.2.2.size)
          have hxd : Rul3 wd w.heap.size (.int .i64 (K : Int)) (.int .i64 (R : Int)) (.slice p n c) := by rw [hwd]; exact HE.out.1.next hd0
          clear hr0 hr1 hr2
          obtain ⟨_, hr0, hr1, hr2⟩ := hxd.facts
          have HD := Lib.hid (And.intro hdr (And.intro hbd hxd))
          clear hdr hbd hxd hxA hxB hxC hd0 hwd
          go_wp2_with fail
          refine (raw_fresh ruleOp 2 1 wd).mono ?_
          rintro e w2 ⟨g, g', rfl, hg, hcg, hcg', hb2⟩
          obtain ⟨⟨hf0, hf1, hf2⟩, hc0, hc1, hc2⟩ := (HD.out.1.next hb2).facts
          have HB := Lib.hid (RefErrR.laid (k := 1) HD.out.2.1 (Nat.le_succ _) HD.out.1.lt hg hcg hcg' hb2)
          clear hb2 hcg hcg' hg
          go_wp2_with fail
          refine bodyPost_ret (v := .agg #[.int .i64 1, .slice (some ⟨g, 0, none⟩) 1 1, .slice (some ⟨g', 0, none⟩) 1 1]) (by simp [results, Tryz.results144, go_sem, hc0, hc1, hc2]) rfl ⟨_, rfl, ?_⟩
          exact HB.out _ _ _
      · rename_i hlen
        obtain ⟨j, hj, rfl⟩ := Option.map_eq_some_iff.1 hc
        have hbn := badN_bad hj
        have hjl := strayN_lt hj
        have hnS : S = n := by omega
        have hjn : j < n := by omega
        simp only [hnS] at hpw
        have HP := Lib.hid hpw
        have H := Lib.hid (And.intro h (And.intro hn hbn))
        have w3j : IntKind.i64.wrap (3 + (j : Int)) = 3 + (j : Int) := by rw [IntWalk.i64_in _ (by omega)]
        have hp3 : ((3 + j : Nat) : Int) = 3 + (j : Int) := by push_cast; rfl
        rw [hp3]
        clear hpw h hn hc hlen hj hjl hbn hnS hp3
        go_enter Tryz.func144, Tryz.ntmps144
        go_upto_region 1 with fail
        obtain ⟨w0, hw0⟩ : ∃ w0, w0 = (w.alloc (.cells #[.int .i64 (K : Int), .int .i64 (R : Int), .slice p n c] 24)).alloc (.cells #[.int .i64 0, .slice none 0 0, .slice none 0 0] 32) := ⟨_, rfl⟩
        obtain ⟨hb0, hR0, hE0⟩ := start_both w _ _ _ w0 hw0
        rw [← hw0]
        have hszb : (w.alloc (.cells #[.int .i64 (K : Int), .int .i64 (R : Int), .slice p n c] 24)).heap.size = w.heap.size + 1 := by simp
        obtain ⟨_, hr0, hr1, hr2⟩ := hR0.facts
        have HE := Lib.hid (And.intro hR0 (And.intro hE0 hb0))
        clear hw0 hR0 hE0 hb0
        go_wp2_with fail
        have hd0 : Below w0.heap.size w0 w0.drew := (Below.refl _ _).drew
        have hxA : ∀ wx : World, Below w0.heap.size w0 wx → wx.cell? ⟨w.heap.size, 0, none⟩ = some (.int .i64 (K : Int)) := fun wx hbx => (HE.out.1.next hbx).facts.2.1
        have hxB : ∀ wx : World, Below w0.heap.size w0 wx → wx.cell? ⟨w.heap.size, 1, none⟩ = some (.int .i64 (R : Int)) := fun wx hbx => (HE.out.1.next hbx).facts.2.2.1
        have hxC : ∀ wx : World, Below w0.heap.size w0 wx → wx.cell? ⟨w.heap.size, 2, none⟩ = some (.slice p n c) := fun wx hbx => (HE.out.1.next hbx).facts.2.2.2
        go_region_held3 (fun w' => w'.cell? ⟨w.heap.size, 0, none⟩ = some (.int .i64 (K : Int)) ∧ w'.cell? ⟨w.heap.size, 1, none⟩ = some (.int .i64 (R : Int)) ∧ w'.cell? ⟨w.heap.size, 2, none⟩ = some (.slice p n c)) (first | exact ⟨hxA _ hd0, hxB _ hd0, hxC _ hd0⟩ | go_keep) (first
          | (go_at_call 100; refine (HP.out _).mono ?_; rintro e w9 ⟨rfl, rfl⟩))
        all_goals
          obtain ⟨wd, hwd⟩ : ∃ x, x = w0.drew := ⟨_, rfl⟩
          rw [← hwd]
          have hdr : Err3 wd (w.heap.size + 1) (.int .i64 0) (.slice none 0 0) (.slice none 0 0) := by rw [hwd]; exact HE.out.2.1.next hd0
          have hbd : Below w.heap.size w wd := by rw [hwd]; exact HE.out.2.2.trans (hd0.mono HE.out.2.2.size)
          have hxd : Rul3 wd w.heap.size (.int .i64 (K : Int)) (.int .i64 (R : Int)) (.slice p n c) := by rw [hwd]; exact HE.out.1.next hd0
          clear hr0 hr1 hr2
          obtain ⟨_, hr0, hr1, hr2⟩ := hxd.facts
          have HD := Lib.hid (And.intro hdr (And.intro hbd hxd))
          clear hdr hbd hxd hxA hxB hxC hd0 hwd
          go_wp2_with fail
          refine (bad_ref (K : Int) p n c t wd H.out.2.1 (H.out.1.next HD.out.2.1)).mono ?_
          rintro e w1 ⟨rfl, rfl⟩
          rw [H.out.2.2]
          go_wp2_with fail
          refine (raw_fresh ruleOp (3 + (j : Int)) 1 wd).mono ?_
          rintro e w2 ⟨g, g', rfl, hg, hcg, hcg', hb2⟩
          obtain ⟨⟨hf0, hf1, hf2⟩, hc0, hc1, hc2⟩ := (HD.out.1.next hb2).facts
          have HB := Lib.hid (RefErrR.laid (k := 1) HD.out.2.1 (Nat.le_succ _) HD.out.1.lt hg hcg hcg' hb2)
          clear hb2 hcg hcg' hg
          go_wp2_with fail
          refine bodyPost_ret (v := .agg #[.int .i64 1, .slice (some ⟨g, 0, none⟩) 1 1, .slice (some ⟨g', 0, none⟩) 1 1]) (by simp [results, Tryz.results144, go_sem, hc0, hc1, hc2]) rfl ⟨_, rfl, ?_⟩
          exact HB.out _ _ _
end Go.Proofs.YtgdjnohhofbcnaaGreatDoor
end
section
namespace Go.Proofs.YtgdjnohhofbcnaaGreatDoor
open Go.RowKit Go.Extern WordM NatM

theorem bad_no (a b : Value) (w : World) : Calls Tryz.prog 30 #[.agg #[.int .i64 0, a, b]] w (Tells (.bool false) w) := by
  go_enter Tryz.func30, Tryz.ntmps30
  go_wp2_with fail
  go_ret
  exact ⟨rfl, (Below.refl _ _).alloc (Nat.le_refl _) _⟩
theorem bad_yes (k : Int) (hk : k ≠ 0) (a b : Value) (w : World) : Calls Tryz.prog 30 #[.agg #[.int .i64 k, a, b]] w (Tells (.bool true) w) := by
  have hk' : (k != 0) = true := by simpa using hk
  have hk2 : (k == 0) = false := by simpa using hk
  go_enter Tryz.func30, Tryz.ntmps30
  go_wp2_with fail
  go_ret
  exact ⟨rfl, (Below.refl _ _).alloc (Nat.le_refl _) _⟩
theorem chkW_num {k : Int} {l : List Int} {i m : Nat} (h : chkW k l = some (i, m)) : 1 ≤ m ∧ m ≤ 11 := by
  unfold chkW at h
  split at h
  · have h1 := (Prod.mk.inj (Option.some.inj h)).2; omega
  · split at h
    · have h1 := (Prod.mk.inj (Option.some.inj h)).2; omega
    · obtain ⟨j, _, he⟩ := Option.map_eq_some_iff.1 h
      have h1 := (Prod.mk.inj he).2; omega
theorem WantV.next {w w' : World} {po pa : Option Addr} {a b : Nat} {L : List (ByteArray × Int)} (hb : Below w.heap.size w w') (h : WantV w po pa a b L) : WantV w' po pa a b L := h.below hb

set_option maxRecDepth 100000 in
set_option maxHeartbeats 4000000 in
theorem text_ref_bad (k : Int) (p : Option Addr) (n c : Nat) (l : List Int) (w : World) (hn : n = l.length) (h : IntV w.heap.size w p c l) (i m : Nat) (hc : chkW k l = some (i, m)) :
    Calls Tryz.prog 59 #[.int .i64 k, .slice p n c] w (RefErrW2 w (.string { data := #[] }) i m) := by
  have H := Lib.hid (And.intro h hn)
  have hm := (chkW_num hc).1
  have HC := Lib.hid hc
  clear h hc hn
  go_enter Tryz.func59, Tryz.ntmps59
  go_wp2_with fail
  obtain ⟨w0, hw0⟩ : ∃ w0, w0 = w.alloc (.cells #[.int .i64 0, .slice none 0 0, .slice none 0 0] 32) := ⟨_, rfl⟩
  have hb0 : Below w.heap.size w w0 := by rw [hw0]; exact (Below.refl _ _).alloc (Nat.le_refl _) _
  have hs0 : w.heap.size < w0.heap.size := by rw [hw0]; simp
  have hE0 : Err3 w0 w.heap.size (.int .i64 0) (.slice none 0 0) (.slice none 0 0) := by rw [hw0]; exact Err3.new w
  rw [← hw0]
  have HE := Lib.hid (And.intro hE0 hb0)
  clear hw0 hE0 hb0
  refine (check_ref_bad k p n c l w0 H.out.2 (H.out.1.next HE.out.2) i m HC.out).mono ?_
  rintro e w1 ⟨v, rfl, g, g', rfl, ⟨hg1, hg2⟩, hw, hb1⟩
  have hb1' := hb1
  obtain ⟨wB, hwB⟩ : ∃ x, x = w1.alloc (.cells #[.int .i64 (m : Int), .slice (some ⟨g, 0, none⟩) 1 1, .slice (some ⟨g', 0, none⟩) 1 1] 32) := ⟨_, rfl⟩
  have hbB : Below w1.heap.size w1 wB := by rw [hwB]; exact (Below.refl _ _).alloc (Nat.le_refl _) _
  have hs1 := hb1.size
  have hsB : w1.heap.size < wB.heap.size := by rw [hwB]; simp
  have hEB : Err3 wB w1.heap.size (.int .i64 (m : Int)) (.slice (some ⟨g, 0, none⟩) 1 1) (.slice (some ⟨g', 0, none⟩) 1 1) := by rw [hwB]; exact ⟨heap_newN w1 _⟩
  have hE1 := (HE.out.1.next hb1).next hbB
  have hbw : Below w.heap.size w wB := (HE.out.2.trans (hb1.mono (by omega))).trans (hbB.mono (by omega))
  obtain ⟨_, hk0, hk1, hk2⟩ := hEB.facts
  have H1 := Lib.hid (And.intro hE1 (And.intro hEB (And.intro hbw (hw.next hbB))))
  clear hb1 hb1' hbB hEB hE1 hbw hw
  go_upto_region 2 with fail
  rw [← hwB]
  clear hwB
  go_wp2_with fail
  refine (bad_yes (m : Int) (by omega) (.slice (some ⟨g, 0, none⟩) 1 1) (.slice (some ⟨g', 0, none⟩) 1 1) wB).mono ?_
  rintro e w2 ⟨rfl, hb2⟩
  obtain ⟨⟨hf0, hf1, hf2⟩, hc0, hc1, hc2⟩ := (H1.out.1.next hb2).facts
  obtain ⟨_, hg0, hg1, hg2⟩ := (H1.out.2.1.next hb2).facts
  have hs2 := hb2.size
  have H2 := Lib.hid (And.intro (H1.out.2.2.1.trans (hb2.mono (by omega))) (H1.out.2.2.2.next hb2))
  clear hb2 hk0 hk1 hk2
  go_wp2_with fail
  go_region
  all_goals
    go_wp2_with fail
    refine bodyPost_ret (v := .tuple #[.string { data := #[] }, .agg #[.int .i64 (m : Int), .slice (some ⟨g, 0, none⟩) 1 1, .slice (some ⟨g', 0, none⟩) 1 1]]) (by simp [results, Tryz.results59, go_sem, hc0, hc1, hc2]) rfl ⟨_, rfl, g, g', rfl, ⟨by omega, by omega⟩, ?_, ?_⟩
    · exact (H2.out.2.put3 (h := w.heap.size) (by omega) (by omega) (.int .i64 (m : Int)) (.slice (some ⟨g, 0, none⟩) 1 1) (.slice (some ⟨g', 0, none⟩) 1 1)).below ((Below.refl _ _).drew)
    · exact (put3_below H2.out.1 (Nat.le_refl _) _ _ _).drew

set_option maxRecDepth 100000 in
set_option maxHeartbeats 4000000 in
theorem next_ref_bad (k : Int) (p : Option Addr) (n c : Nat) (l : List Int) (w : World) (hn : n = l.length) (h : IntV w.heap.size w p c l) (i m : Nat) (hc : chkW k l = some (i, m)) :
    Calls Tryz.prog 52 #[.int .i64 k, .slice p n c] w (RefErrW2 w (.slice none 0 0) i m) := by
  have H := Lib.hid (And.intro h hn)
  have hm := (chkW_num hc).1
  have HC := Lib.hid hc
  clear h hc hn
  go_enter Tryz.func52, Tryz.ntmps52
  go_wp2_with fail
  obtain ⟨w0, hw0⟩ : ∃ w0, w0 = w.alloc (.cells #[.int .i64 0, .slice none 0 0, .slice none 0 0] 32) := ⟨_, rfl⟩
  have hb0 : Below w.heap.size w w0 := by rw [hw0]; exact (Below.refl _ _).alloc (Nat.le_refl _) _
  have hs0 : w.heap.size < w0.heap.size := by rw [hw0]; simp
  have hE0 : Err3 w0 w.heap.size (.int .i64 0) (.slice none 0 0) (.slice none 0 0) := by rw [hw0]; exact Err3.new w
  rw [← hw0]
  have HE := Lib.hid (And.intro hE0 hb0)
  clear hw0 hE0 hb0
  refine (check_ref_bad k p n c l w0 H.out.2 (H.out.1.next HE.out.2) i m HC.out).mono ?_
  rintro e w1 ⟨v, rfl, g, g', rfl, ⟨hg1, hg2⟩, hw, hb1⟩
  have hb1' := hb1
  obtain ⟨wB, hwB⟩ : ∃ x, x = w1.alloc (.cells #[.int .i64 (m : Int), .slice (some ⟨g, 0, none⟩) 1 1, .slice (some ⟨g', 0, none⟩) 1 1] 32) := ⟨_, rfl⟩
  have hbB : Below w1.heap.size w1 wB := by rw [hwB]; exact (Below.refl _ _).alloc (Nat.le_refl _) _
  have hs1 := hb1.size
  have hsB : w1.heap.size < wB.heap.size := by rw [hwB]; simp
  have hEB : Err3 wB w1.heap.size (.int .i64 (m : Int)) (.slice (some ⟨g, 0, none⟩) 1 1) (.slice (some ⟨g', 0, none⟩) 1 1) := by rw [hwB]; exact ⟨heap_newN w1 _⟩
  have hE1 := (HE.out.1.next hb1).next hbB
  have hbw : Below w.heap.size w wB := (HE.out.2.trans (hb1.mono (by omega))).trans (hbB.mono (by omega))
  obtain ⟨_, hk0, hk1, hk2⟩ := hEB.facts
  have H1 := Lib.hid (And.intro hE1 (And.intro hEB (And.intro hbw (hw.next hbB))))
  clear hb1 hb1' hbB hEB hE1 hbw hw
  go_upto_region 2 with fail
  rw [← hwB]
  clear hwB
  go_wp2_with fail
  refine (bad_yes (m : Int) (by omega) (.slice (some ⟨g, 0, none⟩) 1 1) (.slice (some ⟨g', 0, none⟩) 1 1) wB).mono ?_
  rintro e w2 ⟨rfl, hb2⟩
  obtain ⟨⟨hf0, hf1, hf2⟩, hc0, hc1, hc2⟩ := (H1.out.1.next hb2).facts
  obtain ⟨_, hg0, hg1, hg2⟩ := (H1.out.2.1.next hb2).facts
  have hs2 := hb2.size
  have H2 := Lib.hid (And.intro (H1.out.2.2.1.trans (hb2.mono (by omega))) (H1.out.2.2.2.next hb2))
  clear hb2 hk0 hk1 hk2
  go_wp2_with fail
  go_region
  all_goals
    go_wp2_with fail
    refine bodyPost_ret (v := .tuple #[.slice none 0 0, .agg #[.int .i64 (m : Int), .slice (some ⟨g, 0, none⟩) 1 1, .slice (some ⟨g', 0, none⟩) 1 1]]) (by simp [results, Tryz.results52, go_sem, hc0, hc1, hc2]) rfl ⟨_, rfl, g, g', rfl, ⟨by omega, by omega⟩, ?_, ?_⟩
    · exact (H2.out.2.put3 (h := w.heap.size) (by omega) (by omega) (.int .i64 (m : Int)) (.slice (some ⟨g, 0, none⟩) 1 1) (.slice (some ⟨g', 0, none⟩) 1 1)).below ((Below.refl _ _).drew)
    · exact (put3_below H2.out.1 (Nat.le_refl _) _ _ _).drew

set_option maxRecDepth 100000 in
set_option maxHeartbeats 4000000 in
theorem index_ref_bad (k : Int) (p : Option Addr) (n c : Nat) (l : List Int) (w : World) (hn : n = l.length) (h : IntV w.heap.size w p c l) (i m : Nat) (hc : chkW k l = some (i, m)) :
    Calls Tryz.prog 54 #[.int .i64 k, .slice p n c] w (RefErrW2 w (.slice none 0 0) i m) := by
  have H := Lib.hid (And.intro h hn)
  have hm := (chkW_num hc).1
  have HC := Lib.hid hc
  clear h hc hn
  go_enter Tryz.func54, Tryz.ntmps54
  go_wp2_with fail
  obtain ⟨w0, hw0⟩ : ∃ w0, w0 = w.alloc (.cells #[.int .i64 0, .slice none 0 0, .slice none 0 0] 32) := ⟨_, rfl⟩
  have hb0 : Below w.heap.size w w0 := by rw [hw0]; exact (Below.refl _ _).alloc (Nat.le_refl _) _
  have hs0 : w.heap.size < w0.heap.size := by rw [hw0]; simp
  have hE0 : Err3 w0 w.heap.size (.int .i64 0) (.slice none 0 0) (.slice none 0 0) := by rw [hw0]; exact Err3.new w
  rw [← hw0]
  have HE := Lib.hid (And.intro hE0 hb0)
  clear hw0 hE0 hb0
  refine (check_ref_bad k p n c l w0 H.out.2 (H.out.1.next HE.out.2) i m HC.out).mono ?_
  rintro e w1 ⟨v, rfl, g, g', rfl, ⟨hg1, hg2⟩, hw, hb1⟩
  have hb1' := hb1
  obtain ⟨wB, hwB⟩ : ∃ x, x = w1.alloc (.cells #[.int .i64 (m : Int), .slice (some ⟨g, 0, none⟩) 1 1, .slice (some ⟨g', 0, none⟩) 1 1] 32) := ⟨_, rfl⟩
  have hbB : Below w1.heap.size w1 wB := by rw [hwB]; exact (Below.refl _ _).alloc (Nat.le_refl _) _
  have hs1 := hb1.size
  have hsB : w1.heap.size < wB.heap.size := by rw [hwB]; simp
  have hEB : Err3 wB w1.heap.size (.int .i64 (m : Int)) (.slice (some ⟨g, 0, none⟩) 1 1) (.slice (some ⟨g', 0, none⟩) 1 1) := by rw [hwB]; exact ⟨heap_newN w1 _⟩
  have hE1 := (HE.out.1.next hb1).next hbB
  have hbw : Below w.heap.size w wB := (HE.out.2.trans (hb1.mono (by omega))).trans (hbB.mono (by omega))
  obtain ⟨_, hk0, hk1, hk2⟩ := hEB.facts
  have H1 := Lib.hid (And.intro hE1 (And.intro hEB (And.intro hbw (hw.next hbB))))
  clear hb1 hb1' hbB hEB hE1 hbw hw
  go_upto_region 2 with fail
  rw [← hwB]
  clear hwB
  go_wp2_with fail
  refine (bad_yes (m : Int) (by omega) (.slice (some ⟨g, 0, none⟩) 1 1) (.slice (some ⟨g', 0, none⟩) 1 1) wB).mono ?_
  rintro e w2 ⟨rfl, hb2⟩
  obtain ⟨⟨hf0, hf1, hf2⟩, hc0, hc1, hc2⟩ := (H1.out.1.next hb2).facts
  obtain ⟨_, hg0, hg1, hg2⟩ := (H1.out.2.1.next hb2).facts
  have hs2 := hb2.size
  have H2 := Lib.hid (And.intro (H1.out.2.2.1.trans (hb2.mono (by omega))) (H1.out.2.2.2.next hb2))
  clear hb2 hk0 hk1 hk2
  go_wp2_with fail
  go_region
  all_goals
    go_wp2_with fail
    refine bodyPost_ret (v := .tuple #[.slice none 0 0, .agg #[.int .i64 (m : Int), .slice (some ⟨g, 0, none⟩) 1 1, .slice (some ⟨g', 0, none⟩) 1 1]]) (by simp [results, Tryz.results54, go_sem, hc0, hc1, hc2]) rfl ⟨_, rfl, g, g', rfl, ⟨by omega, by omega⟩, ?_, ?_⟩
    · exact (H2.out.2.put3 (h := w.heap.size) (by omega) (by omega) (.int .i64 (m : Int)) (.slice (some ⟨g, 0, none⟩) 1 1) (.slice (some ⟨g', 0, none⟩) 1 1)).below ((Below.refl _ _).drew)
    · exact (put3_below H2.out.1 (Nat.le_refl _) _ _ _).drew
end Go.Proofs.YtgdjnohhofbcnaaGreatDoor
end
