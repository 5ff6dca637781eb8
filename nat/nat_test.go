package nat_test

import (
	"errors"
	"math"
	"math/big"
	"slices"
	"strings"
	"testing"

	"eden/api"
	"eden/nat"
)

const top = math.MaxUint32

// value is the number that the limbs of a mean, normal or not.
func value(a api.Nat) *big.Int {
	v := new(big.Int)
	for i := len(a) - 1; i >= 0; i-- {
		v.Lsh(v, 32)
		v.Add(v, big.NewInt(int64(a[i])))
	}
	return v
}

// wantValue demands that got is normal and has the value want.
func wantValue(t *testing.T, what string, got api.Nat, want *big.Int) {
	t.Helper()
	if len(got) > 0 && got[len(got)-1] == 0 {
		t.Errorf("%s: %v is not normal", what, got)
	}
	if value(got).Cmp(want) != 0 {
		t.Errorf("%s: %v, want %s", what, got, want)
	}
}

// wantLimbs demands just these limbs.
func wantLimbs(t *testing.T, what string, got api.Nat, want ...uint32) {
	t.Helper()
	if !slices.Equal(got, want) {
		t.Errorf("%s: %v, want %v", what, got, want)
	}
}

// wantFault demands one Fault of nat with the number at, that wraps inner.
func wantFault(t *testing.T, what string, err, inner error, at int) {
	t.Helper()
	f, ok := err.(*api.Fault)
	if !ok || f.Op != "nat" || f.At != at || f.Err != inner {
		t.Errorf("%s: %v, want nat %d: %v", what, err, at, inner)
	}
}

// full is a number of n limbs that are all as great as can be: 2^(32 n) - 1.
func full(n int) api.Nat {
	return slices.Repeat(api.Nat{top}, n)
}

// unit is 2^(32 n).
func unit(n int) api.Nat {
	return append(make(api.Nat, n), 1)
}

// mixed is a number of n limbs that look like chance, the same for the same seed.
func mixed(n int, seed uint64) api.Nat {
	a := make(api.Nat, n)
	for i := range a {
		seed = seed*6364136223846793005 + 1442695040888963407
		a[i] = uint32(seed >> 32)
	}
	return a
}

// samples are numbers of all kinds; some are not normal.
func samples() []api.Nat {
	return []api.Nat{
		nil, {}, {0}, {0, 0, 0}, {1}, {1, 0}, {2}, {9}, {10}, {top}, {top, 0, 0}, {0, 1}, {1, 1}, {0, top}, {top, top},
		{0, 0, 1}, {1, 0, 1}, {5, 0, 0, 7, 0}, {999999999}, {1000000000}, {1<<31 - 1}, {1 << 31}, {0, 1 << 31},
		{0x89e80000, 0x8ac72304}, // 10^19
		full(3), full(9), append(full(9), 0), unit(2), unit(9), mixed(2, 1), mixed(3, 2), mixed(7, 3), mixed(40, 4),
		append(mixed(5, 5), 0, 0, 0),
	}
}

// pairs calls f with each pair of samples.
func pairs(f func(a, b api.Nat)) {
	for _, a := range samples() {
		for _, b := range samples() {
			f(a, b)
		}
	}
}

// P2.1

func TestFrom(t *testing.T) {
	wantLimbs(t, "0", nat.From(0))
	wantLimbs(t, "1", nat.From(1), 1)
	wantLimbs(t, "2^32 - 1", nat.From(top), top)
	wantLimbs(t, "2^32", nat.From(1<<32), 0, 1)
	wantLimbs(t, "2^32 + 5", nat.From(1<<32+5), 5, 1)
	wantLimbs(t, "2^64 - 1", nat.From(math.MaxUint64), top, top)
}

func TestLowAndFits(t *testing.T) {
	modulus := new(big.Int).Lsh(big.NewInt(1), 64)
	for _, a := range samples() {
		v := value(a)
		if got, want := nat.Low(a), new(big.Int).Mod(v, modulus).Uint64(); got != want {
			t.Errorf("Low(%v): %d, want %d", a, got, want)
		}
		if got, want := nat.Fits(a), v.Cmp(modulus) < 0; got != want {
			t.Errorf("Fits(%v): %v", a, got)
		}
	}
	if nat.Low(api.Nat{1, 2, 3}) != 1<<33+1 || nat.Low(api.Nat{0, 0, 3}) != 0 || nat.Low(full(5)) != math.MaxUint64 {
		t.Error("Low beyond 2^64")
	}
	if !nat.Fits(api.Nat{1, 2, 0}) || !nat.Fits(full(2)) || nat.Fits(unit(2)) || nat.Fits(api.Nat{1, 2, 3}) {
		t.Error("Fits at 2^64")
	}
}

func TestCmp(t *testing.T) {
	pairs(func(a, b api.Nat) {
		if got, want := nat.Cmp(a, b), value(a).Cmp(value(b)); got != want {
			t.Errorf("Cmp(%v, %v): %d, want %d", a, b, got, want)
		}
	})
	// The lower limb says otherwise than the upper one.
	if nat.Cmp(api.Nat{top, 1}, api.Nat{0, 2}) != -1 || nat.Cmp(api.Nat{0, 2}, api.Nat{top, 1}) != 1 {
		t.Error("the upper limb does not decide")
	}
	if nat.Cmp(api.Nat{7, 0}, api.Nat{7}) != 0 || nat.Cmp(nil, api.Nat{0, 0}) != 0 || nat.Cmp(api.Nat{7, 0, 0}, api.Nat{8}) != -1 {
		t.Error("trailing zero limbs")
	}
}

func TestBits(t *testing.T) {
	for _, a := range samples() {
		if got, want := nat.Bits(a), value(a).BitLen(); got != want {
			t.Errorf("Bits(%v): %d, want %d", a, got, want)
		}
	}
	if nat.Bits(nil) != 0 || nat.Bits(api.Nat{0, 0}) != 0 || nat.Bits(api.Nat{1}) != 1 || nat.Bits(api.Nat{top}) != 32 || nat.Bits(api.Nat{0, 1}) != 33 {
		t.Error("Bits at the edges")
	}
}

// P2.2

func TestAddSubMul(t *testing.T) {
	pairs(func(a, b api.Nat) {
		x, y := value(a), value(b)
		wantValue(t, "Add", nat.Add(a, b), new(big.Int).Add(x, y))
		wantValue(t, "Mul", nat.Mul(a, b), new(big.Int).Mul(x, y))
		difference, err := nat.Sub(a, b)
		if x.Cmp(y) < 0 {
			wantFault(t, "Sub", err, api.BadArg, 0)
			wantLimbs(t, "Sub beside an error", difference)
			return
		}
		if err != nil {
			t.Errorf("Sub(%v, %v): %v", a, b, err)
		}
		wantValue(t, "Sub", difference, new(big.Int).Sub(x, y))
	})
}

func TestCarriesOverManyLimbs(t *testing.T) {
	const n = 1000
	wantLimbs(t, "Add", nat.Add(full(n), nat.From(1)), unit(n)...)
	wantLimbs(t, "Add turned", nat.Add(nat.From(1), full(n)), unit(n)...)
	difference, err := nat.Sub(unit(n), nat.From(1))
	if err != nil {
		t.Error(err)
	}
	wantLimbs(t, "Sub", difference, full(n)...)
	// (2^(32 n) - 1)^2 is 2^(64 n) - 2^(32 n + 1) + 1.
	square := append(append(unit(0), make(api.Nat, n-1)...), append(api.Nat{top - 1}, full(n-1)...)...)
	wantLimbs(t, "Mul", nat.Mul(full(n), full(n)), square...)
	difference, err = nat.Sub(full(n), full(n))
	if err != nil {
		t.Error(err)
	}
	wantLimbs(t, "Sub of equals", difference)
}

func TestSum(t *testing.T) {
	wantLimbs(t, "Sum of none", nat.Sum())
	wantLimbs(t, "Sum of zeros", nat.Sum(nil, api.Nat{0}, api.Nat{0, 0, 0}))
	wantLimbs(t, "Sum of one", nat.Sum(api.Nat{4, 5, 0}), 4, 5)
	wantLimbs(t, "a carry at each limb", nat.Sum(full(4), full(4), nat.From(2)), 0, 0, 0, 0, 2)
	want := new(big.Int)
	for _, a := range samples() {
		want.Add(want, value(a))
	}
	wantValue(t, "Sum of all", nat.Sum(samples()...), want)
	many := slices.Repeat([]api.Nat{{top}}, 100000)
	wantValue(t, "Sum of many", nat.Sum(many...), big.NewInt(top*100000))
}

// P2.3

func TestOver(t *testing.T) {
	for _, a := range samples() {
		for _, d := range []uint32{1, 2, 3, 7, 10, 65536, 1000000000, 1 << 31, top - 1, top} {
			quotient, remainder, err := nat.Over(a, d)
			q, r := new(big.Int).QuoRem(value(a), big.NewInt(int64(d)), new(big.Int))
			if err != nil || int64(remainder) != r.Int64() {
				t.Errorf("Over(%v, %d): remainder %d, %v, want %s", a, d, remainder, err, r)
			}
			wantValue(t, "Over", quotient, q)
		}
		quotient, remainder, err := nat.Over(a, 0)
		wantFault(t, "Over 0", err, api.BadArg, 0)
		wantLimbs(t, "Over 0", quotient)
		if remainder != 0 {
			t.Errorf("Over(%v, 0): remainder %d", a, remainder)
		}
	}
}

func TestPow(t *testing.T) {
	for _, k := range []uint32{0, 1, 2, 3, 4, 10, 65535, 65536, 1 << 31, top} {
		for _, n := range []int{0, 1, 2, 3, 31, 32, 33, 64, 1000, api.MaxPower - 1, api.MaxPower} {
			power, err := nat.Pow(k, n)
			if err != nil {
				t.Errorf("Pow(%d, %d): %v", k, n, err)
			}
			wantValue(t, "Pow", power, new(big.Int).Exp(big.NewInt(int64(k)), big.NewInt(int64(n)), nil))
		}
	}
}

func TestPowBeyond(t *testing.T) {
	for _, k := range []uint32{0, 1, 2, top} {
		for _, n := range []int{math.MinInt, -1025, -1} {
			power, err := nat.Pow(k, n)
			wantFault(t, "a negative exponent", err, api.BadArg, 0)
			wantLimbs(t, "a negative exponent", power)
		}
		for _, n := range []int{api.MaxPower + 1, 1 << 32, math.MaxInt} {
			power, err := nat.Pow(k, n)
			wantFault(t, "too great an exponent", err, api.TooBig, 0)
			wantLimbs(t, "too great an exponent", power)
		}
	}
}

// P2.4

func TestText(t *testing.T) {
	for _, a := range samples() {
		if got, want := nat.Text(a), value(a).String(); got != want {
			t.Errorf("Text(%v): %s, want %s", a, got, want)
		}
	}
	// Around each power of ten the number of digits changes, and zeros fill whole chunks.
	ten := big.NewInt(1)
	for range 60 {
		for _, d := range []int64{-1, 0, 1} {
			want := new(big.Int).Add(ten, big.NewInt(d))
			a := fromBig(want)
			if got := nat.Text(a); got != want.String() {
				t.Errorf("Text: %s, want %s", got, want)
			}
		}
		ten.Mul(ten, big.NewInt(10))
	}
	if nat.Text(nil) != "0" || nat.Text(api.Nat{0, 0}) != "0" {
		t.Error("Text of 0")
	}
}

// fromBig is v as limbs.
func fromBig(v *big.Int) api.Nat {
	var a api.Nat
	v = new(big.Int).Set(v)
	for v.Sign() > 0 {
		a = append(a, uint32(v.Uint64()))
		v.Rsh(v, 32)
	}
	return a
}

// P2.5

func TestParse(t *testing.T) {
	for _, s := range []string{
		"0", "1", "9", "10", "999999999", "1000000000", "4294967295", "4294967296", "18446744073709551616",
		"100000000000000000000000000000000000000", strings.Repeat("9", api.MaxDigits-1), strings.Repeat("9", api.MaxDigits),
		"1" + strings.Repeat("0", api.MaxDigits-1), strings.Repeat("1234567890", 50),
	} {
		got, err := nat.Parse(s)
		if err != nil {
			t.Errorf("Parse(%q): %v", s, err)
		}
		want, _ := new(big.Int).SetString(s, 10)
		wantValue(t, "Parse", got, want)
		if nat.Text(got) != s {
			t.Errorf("Text of Parse(%q): %s", s, nat.Text(got))
		}
	}
	for _, a := range samples() {
		got, err := nat.Parse(nat.Text(a))
		if err != nil || nat.Cmp(got, a) != 0 {
			t.Errorf("Parse of Text(%v): %v, %v", a, got, err)
		}
	}
}

func TestParseErrors(t *testing.T) {
	for _, c := range []struct {
		s     string
		inner error
		at    int
	}{
		{"", api.BadText, 0},
		{"x", api.BadText, 0},
		{" 1", api.BadText, 0},
		{"+1", api.BadText, 0},
		{"-1", api.BadText, 0},
		{"12a4", api.BadText, 2},
		{"12a4b", api.BadText, 2},
		{"1_000", api.BadText, 1},
		{"12 ", api.BadText, 2},
		{"12\n", api.BadText, 2},
		{"12\x00", api.BadText, 2},
		{"1/", api.BadText, 1},
		{"1:", api.BadText, 1},
		{"12\u0663", api.BadText, 2},
		{"1\xff", api.BadText, 1},
		{"00", api.BadText, 0},
		{"007", api.BadText, 0},
		// A byte that is no digit is named before the zero at the beginning.
		{"0x", api.BadText, 1},
		{"00x", api.BadText, 2},
		{"0" + strings.Repeat("9", api.MaxDigits-1), api.BadText, 0},
		{strings.Repeat("9", api.MaxDigits-1) + "x", api.BadText, api.MaxDigits - 1},
		// The length is named before all.
		{strings.Repeat("9", api.MaxDigits+1), api.TooBig, 0},
		{strings.Repeat("0", api.MaxDigits+1), api.TooBig, 0},
		{"x" + strings.Repeat("9", api.MaxDigits), api.TooBig, 0},
		{strings.Repeat("9", api.MaxDigits) + "x", api.TooBig, 0},
		{strings.Repeat("\u0663", api.MaxDigits/2+1), api.TooBig, 0},
	} {
		got, err := nat.Parse(c.s)
		wantFault(t, c.s, err, c.inner, c.at)
		wantLimbs(t, c.s, got)
	}
}

func TestErrorsAreFound(t *testing.T) {
	_, err := nat.Parse("12a4")
	var f *api.Fault
	if !errors.Is(err, api.BadText) || !errors.As(err, &f) || f.Op != "nat" || f.At != 2 || err.Error() != "nat 2: bad text" {
		t.Errorf("%v", err)
	}
}

// Rule 3

// guarded is a, with spare capacity that is filled, and a copy of the whole.
func guarded(a api.Nat) (piece, whole, before api.Nat) {
	whole = append(slices.Clone(a), 77, 78, 79)
	return whole[:len(a)], whole, slices.Clone(whole)
}

// results are the numbers that the functions return for a and b.
func results(a, b api.Nat) []api.Nat {
	var all []api.Nat
	all = append(all, nat.Add(a, b), nat.Mul(a, b), nat.Sum(a), nat.Sum(b, a), nat.Sum(a, b, a))
	if difference, err := nat.Sub(a, b); err == nil {
		all = append(all, difference)
	}
	quotient, _, _ := nat.Over(a, 1)
	return append(all, quotient)
}

func TestArgumentsStayAndResultsAreNew(t *testing.T) {
	pairs(func(x, y api.Nat) {
		a, wholeA, beforeA := guarded(x)
		b, wholeB, beforeB := guarded(y)
		list := []api.Nat{a, b, a}
		nat.Sum(list[:2]...)
		nat.Low(a)
		nat.Fits(a)
		nat.Bits(a)
		nat.Text(a)
		nat.Cmp(a, b)
		nat.Over(a, 10)
		got := results(a, b)
		if !slices.Equal(wholeA, beforeA) || !slices.Equal(wholeB, beforeB) || len(list[2]) != len(a) {
			t.Fatalf("arguments %v, %v are changed", x, y)
		}
		spoil(got)
		if !slices.Equal(wholeA, beforeA) || !slices.Equal(wholeB, beforeB) {
			t.Fatalf("a result shares memory with %v or %v", x, y)
		}
		again := results(a, b)
		for i := range wholeA {
			wholeA[i]++
		}
		for i := range wholeB {
			wholeB[i]++
		}
		if fresh := results(slices.Clone(x), slices.Clone(y)); !slices.EqualFunc(fresh, again, slices.Equal[api.Nat]) {
			t.Fatalf("a result for %v, %v keeps its argument", x, y)
		}
	})
}

// spoil overwrites the lists with their spare capacity.
func spoil(lists []api.Nat) {
	for _, list := range lists {
		list = list[:cap(list)]
		for i := range list {
			list[i] = 0xdead
		}
	}
}

func TestResultsOfNumbersAreNew(t *testing.T) {
	calls := []func() api.Nat{
		func() api.Nat { return nat.From(7) },
		func() api.Nat { return nat.From(0) },
		func() api.Nat { return nat.Sum() },
		func() api.Nat { a, _ := nat.Pow(3, 0); return a },
		func() api.Nat { a, _ := nat.Pow(3, 100); return a },
		func() api.Nat { a, _ := nat.Parse("0"); return a },
		func() api.Nat { a, _ := nat.Parse("123456789012345678901234567890"); return a },
	}
	for i, call := range calls {
		first := call()
		want := slices.Clone(first)
		spoil([]api.Nat{first})
		if got := call(); !slices.Equal(got, want) {
			t.Errorf("call %d: %v, want %v", i, got, want)
		}
	}
}

func TestNilAndEmptyAreOne(t *testing.T) {
	empty := make(api.Nat, 0, 4)
	pairs(func(a, _ api.Nat) {
		if !slices.EqualFunc(results(a, nil), results(a, empty), slices.Equal[api.Nat]) {
			t.Errorf("%v with nil and with the empty list", a)
		}
	})
}
