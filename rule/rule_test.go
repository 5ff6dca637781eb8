package rule_test

import (
	"math"
	"math/big"
	"slices"
	"strconv"
	"strings"
	"testing"

	"eden/api"
	"eden/nat"
	"eden/rule"
)

// wantFault demands one Fault of rule with the number at, that wraps inner.
func wantFault(t *testing.T, what string, err, inner error, at int) {
	t.Helper()
	f, ok := err.(*api.Fault)
	if !ok || f.Op != "rule" || f.At != at || f.Err != inner {
		t.Errorf("%s: %v, want rule %d: %v", what, err, at, inner)
	}
}

// wantNone demands the rule that stands beside an error.
func wantNone(t *testing.T, what string, r api.Rule) {
	t.Helper()
	if r.K != 0 || r.R != 0 || len(r.Table) != 0 {
		t.Errorf("%s: %v beside an error", what, r)
	}
}

// same tells whether two rules are equal.
func same(a, b api.Rule) bool {
	return a.K == b.K && a.R == b.R && slices.Equal(a.Table, b.Table)
}

// sizes are the numbers of windows: a line for each number of symbols, a column for each radius.
var sizes = [5][4]int{{}, {1, 1, 1, 1}, {2, 8, 32, 128}, {3, 27, 243, 2187}, {4, 64, 1024, 16384}}

// small are the rules' sizes of which every rule is small.
func small(k, radius int) bool {
	return sizes[k][radius] <= 256
}

// mixed is a word with n symbols that look like chance, the same for the same seed.
func mixed(k, n int, seed uint64) []int {
	w := make([]int, n)
	for i := range w {
		seed = seed*6364136223846793005 + 1442695040888963407
		w[i] = int(seed >> 33 % uint64(k))
	}
	return w
}

// some are rules of all sizes: for each size one whose table looks like chance, one of the least and one of the greatest symbol.
func some() []api.Rule {
	var rules []api.Rule
	for k := 1; k <= 4; k++ {
		for radius := range 4 {
			n := sizes[k][radius]
			rules = append(rules,
				api.Rule{K: k, R: radius, Table: mixed(k, n, uint64(10*k+radius))},
				api.Rule{K: k, R: radius, Table: make([]int, n)},
				api.Rule{K: k, R: radius, Table: slices.Repeat([]int{k - 1}, n)})
		}
	}
	return rules
}

// windows are the windows over k symbols of n cells, in the order of their numbers.
func windows(k, n int) [][]int {
	if n == 0 {
		return [][]int{{}}
	}
	var words [][]int
	for first := range k {
		for _, rest := range windows(k, n-1) {
			words = append(words, append([]int{first}, rest...))
		}
	}
	return words
}

// elementary is the rule of two symbols and radius 1 whose entries are the bits of code.
func elementary(code int) api.Rule {
	table := make([]int, 8)
	for i := range table {
		table[i] = code >> i & 1
	}
	return api.Rule{K: 2, R: 1, Table: table}
}

// with is rule 110 with another entry i.
func with(i, symbol int) api.Rule {
	r := elementary(110)
	r.Table[i] = symbol
	return r
}

// wrong is a rule that Check rejects.
type wrong struct {
	what string
	r    api.Rule
	at   int
}

func wrongs() []wrong {
	late := api.Rule{K: 4, R: 3, Table: make([]int, 16384)}
	late.Table[16383] = 4
	two := with(3, 2)
	two.Table[6] = -1
	return []wrong{
		{"no rule", api.Rule{}, 0},
		{"five symbols", api.Rule{K: 5}, 0},
		{"a negative number of symbols", api.Rule{K: -1, R: 0, Table: []int{0}}, 0},
		{"the least number of symbols", api.Rule{K: math.MinInt, R: 1, Table: make([]int, 8)}, 0},
		{"the greatest number of symbols", api.Rule{K: math.MaxInt, R: 1, Table: make([]int, 8)}, 0},
		{"2^32 + 2 symbols", api.Rule{K: 1<<32 + 2, R: 1, Table: make([]int, 8)}, 0},
		{"the symbols ahead of the radius", api.Rule{K: 0, R: -1}, 0},
		{"five symbols and all their windows", api.Rule{K: 5, R: 0, Table: make([]int, 5)}, 0},
		{"a radius of -1", api.Rule{K: 2, R: -1}, 1},
		{"a radius of 4", api.Rule{K: 1, R: 4, Table: []int{0}}, 1},
		{"the greatest radius", api.Rule{K: 2, R: math.MaxInt, Table: make([]int, 8)}, 1},
		{"the least radius", api.Rule{K: 1, R: math.MinInt, Table: []int{0}}, 1},
		{"the radius ahead of the table", api.Rule{K: 2, R: 4, Table: []int{9}}, 1},
		{"seven entries", api.Rule{K: 2, R: 1, Table: make([]int, 7)}, 2},
		{"nine entries", api.Rule{K: 2, R: 1, Table: make([]int, 9)}, 2},
		{"no entries", api.Rule{K: 2, R: 1}, 2},
		{"no entry for the only window", api.Rule{K: 1, R: 3, Table: []int{}}, 2},
		{"two entries for the only window", api.Rule{K: 1, R: 3, Table: []int{0, 0}}, 2},
		{"the number of entries ahead of the entries", api.Rule{K: 2, R: 1, Table: []int{9}}, 2},
		{"entry 0", with(0, 2), 3},
		{"entry 4", with(4, 2), 7},
		{"entry 7", with(7, -1), 10},
		{"two entries", two, 6},
		{"the greatest symbol", with(5, math.MaxInt), 8},
		{"the least symbol", with(5, math.MinInt), 8},
		{"the symbol 2^32", with(1, 1<<32), 4},
		{"the only symbol but 0", api.Rule{K: 1, R: 0, Table: []int{1}}, 3},
		{"the last entry of the greatest rule", late, 3 + 16383},
	}
}

// greats are rules that are not small, with no fault.
func greats() []api.Rule {
	return []api.Rule{
		{K: 4, R: 2, Table: make([]int, 1024)}, {K: 3, R: 3, Table: mixed(3, 2187, 1)}, {K: 4, R: 3, Table: mixed(4, 16384, 2)},
	}
}

// P4.1

func TestSize(t *testing.T) {
	for k := 1; k <= 4; k++ {
		for radius := range 4 {
			if n, err := rule.Size(k, radius); n != sizes[k][radius] || err != nil {
				t.Errorf("Size(%d, %d): %d, %v", k, radius, n, err)
			}
		}
	}
}

func TestSizeOfWrongArguments(t *testing.T) {
	for _, x := range [][2]int{
		{0, 0}, {5, 0}, {-1, 1}, {-2, 2}, {math.MaxInt, 0}, {math.MinInt, 1}, {1<<32 + 1, 1},
		{1, -1}, {1, 4}, {2, 4}, {4, 64}, {2, math.MaxInt}, {1, math.MinInt}, {2, 1<<32 + 1}, {0, -1}, {5, 4},
	} {
		n, err := rule.Size(x[0], x[1])
		wantFault(t, "Size", err, api.BadArg, 0)
		if n != 0 {
			t.Errorf("Size(%d, %d): %d beside an error", x[0], x[1], n)
		}
	}
}

func TestCheck(t *testing.T) {
	for _, r := range append(some(), greats()...) {
		if err := rule.Check(r); err != nil {
			t.Errorf("K %d, R %d: %v", r.K, r.R, err)
		}
	}
	for _, x := range wrongs() {
		wantFault(t, x.what, rule.Check(x.r), api.BadRule, x.at)
	}
}

func TestSmall(t *testing.T) {
	for _, r := range some() {
		err := rule.Small(r)
		if small(r.K, r.R) && err != nil {
			t.Errorf("K %d, R %d: %v", r.K, r.R, err)
		}
		if !small(r.K, r.R) {
			wantFault(t, "a rule that is not small", err, api.TooBig, 0)
		}
	}
	for _, r := range greats() {
		wantFault(t, "a rule that is not small", rule.Small(r), api.TooBig, 0)
	}
	for _, x := range wrongs() {
		wantFault(t, x.what, rule.Small(x.r), api.BadRule, x.at)
	}
}

// P4.2

func TestLocal(t *testing.T) {
	for _, r := range some() {
		if r.K == 4 && r.R == 3 {
			continue // Each call checks its table: see TestLocalOfTheGreatestRule.
		}
		for number, w := range windows(r.K, 2*r.R+1) {
			if got, err := rule.Local(r, w); got != r.Table[number] || err != nil {
				t.Errorf("K %d, R %d, window %v: %d, %v, want %d", r.K, r.R, w, got, err, r.Table[number])
			}
		}
	}
	if got, err := rule.Local(elementary(110), []int{0, 1, 1}); got != 1 || err != nil {
		t.Errorf("example 1: %d, %v", got, err)
	}
}

func TestLocalOfTheGreatestRule(t *testing.T) {
	r := api.Rule{K: 4, R: 3, Table: mixed(4, 16384, 43)}
	for number, w := range windows(4, 7) {
		if number%61 > 0 && number < 16383 {
			continue
		}
		if got, err := rule.Local(r, w); got != r.Table[number] || err != nil {
			t.Errorf("window %v: %d, %v, want %d", w, got, err, r.Table[number])
		}
	}
}

func TestLocalOfWrongArguments(t *testing.T) {
	for _, x := range wrongs() {
		for _, w := range [][]int{nil, {9}, {0, 0, 0}} {
			got, err := rule.Local(x.r, w)
			wantFault(t, x.what, err, api.BadRule, x.at)
			if got != 0 {
				t.Errorf("%s: %d beside an error", x.what, got)
			}
		}
	}
	for _, x := range []struct {
		what  string
		r     api.Rule
		w     []int
		inner error
		at    int
	}{
		{"no window", elementary(255), nil, api.BadArg, 0},
		{"a window too short", elementary(255), []int{0, 1}, api.BadArg, 0},
		{"a window too long", elementary(255), []int{0, 1, 0, 1}, api.BadArg, 0},
		{"a window of another radius", api.Rule{K: 2, R: 0, Table: []int{1, 1}}, []int{0, 0, 0}, api.BadArg, 0},
		{"the length ahead of the symbols", elementary(255), []int{9, 9}, api.BadArg, 0},
		{"the symbol 2", elementary(255), []int{2, 0, 0}, api.BadWord, 0},
		{"a negative symbol", elementary(255), []int{1, -1, 2}, api.BadWord, 1},
		{"the last symbol", elementary(255), []int{1, 1, 2}, api.BadWord, 2},
		{"the greatest symbol", elementary(255), []int{0, 0, math.MaxInt}, api.BadWord, 2},
		{"the least symbol", elementary(255), []int{0, math.MinInt, 0}, api.BadWord, 1},
		{"the only symbol but 0", api.Rule{K: 1, R: 1, Table: []int{0}}, []int{0, 1, 0}, api.BadWord, 1},
	} {
		got, err := rule.Local(x.r, x.w)
		wantFault(t, x.what, err, x.inner, x.at)
		if got != 0 {
			t.Errorf("%s: %d beside an error", x.what, got)
		}
	}
}

// P4.3

// image is the image of w, window by window.
func image(r api.Rule, w []int) []int {
	var v []int
	for i := 0; i+2*r.R < len(w); i++ {
		number := 0
		for _, symbol := range w[i : i+2*r.R+1] {
			number = number*r.K + symbol
		}
		v = append(v, r.Table[number])
	}
	return v
}

// wantImage demands the image of w.
func wantImage(t *testing.T, r api.Rule, w []int) {
	t.Helper()
	want := image(r, w)
	got, err := rule.Step(r, w)
	if err != nil || !slices.Equal(got, want) {
		t.Errorf("K %d, R %d: the image of %v: %v, %v, want %v", r.K, r.R, w, got, err, want)
	}
}

func TestStep(t *testing.T) {
	for _, r := range some() {
		for n := range 20 {
			wantImage(t, r, mixed(r.K, n, uint64(n)))
		}
		wantImage(t, r, mixed(r.K, 300, 1))
		wantImage(t, r, mixed(r.K, api.MaxWord, 2))
	}
	for code := range 256 {
		for _, w := range windows(2, 5) {
			wantImage(t, elementary(code), w)
		}
	}
}

func TestStepOfTheExamples(t *testing.T) {
	got, err := rule.Step(elementary(110), []int{0, 0, 1, 1, 1})
	if err != nil || !slices.Equal(got, []int{1, 1, 0}) {
		t.Errorf("0 0 1 1 1: %v, %v", got, err)
	}
	for _, w := range [][]int{nil, {}, {0}, {0, 1}} {
		if got, err := rule.Step(elementary(110), w); err != nil || len(got) != 0 {
			t.Errorf("%v: %v, %v", w, got, err)
		}
	}
}

func TestStepOfWrongArguments(t *testing.T) {
	for _, x := range wrongs() {
		for _, w := range [][]int{nil, {9}, {0, 0, 0}, make([]int, api.MaxWord+1)} {
			got, err := rule.Step(x.r, w)
			wantFault(t, x.what, err, api.BadRule, x.at)
			if len(got) != 0 {
				t.Errorf("%s: %v beside an error", x.what, got)
			}
		}
	}
	late := make([]int, api.MaxWord)
	late[api.MaxWord-1] = 2
	for _, x := range []struct {
		what  string
		w     []int
		inner error
		at    int
	}{
		{"too long", make([]int, api.MaxWord+1), api.TooBig, 0},
		{"the length ahead of the symbols", slices.Repeat([]int{9}, api.MaxWord+1), api.TooBig, 0},
		{"a word without an image", []int{0, 2}, api.BadWord, 1},
		{"one symbol", []int{-1}, api.BadWord, 0},
		{"the first of two", []int{0, 1, 1, -1, 0, 7, 0}, api.BadWord, 3},
		{"the greatest symbol", []int{0, 1, 1, 0, math.MaxInt}, api.BadWord, 4},
		{"the least symbol", []int{0, 1, math.MinInt, 0, 0}, api.BadWord, 2},
		{"the last symbol", late, api.BadWord, api.MaxWord - 1},
	} {
		got, err := rule.Step(elementary(255), x.w)
		wantFault(t, x.what, err, x.inner, x.at)
		if len(got) != 0 {
			t.Errorf("%s: %v beside an error", x.what, got)
		}
	}
}

// P4.4

// code is the sum of the entries times the powers of K.
func code(r api.Rule) *big.Int {
	sum, power := new(big.Int), big.NewInt(1)
	for _, entry := range r.Table {
		sum.Add(sum, new(big.Int).Mul(power, big.NewInt(int64(entry))))
		power.Mul(power, big.NewInt(int64(r.K)))
	}
	return sum
}

// limbs is the number x.
func limbs(x *big.Int) api.Nat {
	var n api.Nat
	for rest := new(big.Int).Set(x); rest.Sign() > 0; rest.Rsh(rest, 32) {
		n = append(n, uint32(new(big.Int).And(rest, big.NewInt(math.MaxUint32)).Uint64()))
	}
	return n
}

func TestCodeAndFrom(t *testing.T) {
	for _, r := range some() {
		if !small(r.K, r.R) {
			continue
		}
		want := limbs(code(r))
		if got, err := rule.Code(r); err != nil || !slices.Equal(got, want) {
			t.Errorf("Code of K %d, R %d, %v: %v, %v, want %v", r.K, r.R, r.Table, got, err, want)
		}
		for _, x := range []api.Nat{want, append(slices.Clone(want), 0), append(slices.Clone(want), 0, 0, 0)} {
			if got, err := rule.From(r.K, r.R, x); err != nil || !same(got, r) {
				t.Errorf("From(%d, %d, %v): %v, %v", r.K, r.R, x, got, err)
			}
		}
	}
	for number := range 256 {
		got, err := rule.Code(elementary(number))
		if err != nil || !slices.Equal(got, nat.From(uint64(number))) {
			t.Errorf("Code of rule %d: %v, %v", number, got, err)
		}
		r, err := rule.From(2, 1, nat.From(uint64(number)))
		if err != nil || !same(r, elementary(number)) {
			t.Errorf("From(2, 1, %d): %v, %v", number, r, err)
		}
	}
}

func TestFromOfTheExamples(t *testing.T) {
	for _, x := range []struct {
		k, radius int
		code      api.Nat
		table     []int
	}{
		{2, 1, api.Nat{90}, []int{0, 1, 0, 1, 1, 0, 1, 0}},
		{2, 0, api.Nat{2}, []int{0, 1}},
		{1, 3, nil, []int{0}},
		{1, 3, api.Nat{0}, []int{0}},
		{3, 0, api.Nat{4}, []int{1, 1, 0}},
	} {
		want := api.Rule{K: x.k, R: x.radius, Table: x.table}
		if r, err := rule.From(x.k, x.radius, x.code); err != nil || !same(r, want) {
			t.Errorf("From(%d, %d, %v): %v, %v", x.k, x.radius, x.code, r, err)
		}
	}
}

// Of each size, the last number that a rule has, and the first one that none has.
func TestFromAtTheEnd(t *testing.T) {
	for k := 1; k <= 4; k++ {
		for radius := range 4 {
			if !small(k, radius) {
				continue
			}
			number := sizes[k][radius]
			last := api.Rule{K: k, R: radius, Table: slices.Repeat([]int{k - 1}, number)}
			beyond := new(big.Int).Exp(big.NewInt(int64(k)), big.NewInt(int64(number)), nil)
			r, err := rule.From(k, radius, limbs(new(big.Int).Sub(beyond, big.NewInt(1))))
			if err != nil || !same(r, last) {
				t.Errorf("the last rule of K %d, R %d: %v, %v", k, radius, r, err)
			}
			for _, x := range []api.Nat{limbs(beyond), append(limbs(beyond), 1), append(make(api.Nat, 2000), 1)} {
				r, err := rule.From(k, radius, x)
				wantFault(t, "beyond the last rule", err, api.BadArg, 1)
				wantNone(t, "beyond the last rule", r)
			}
		}
	}
}

func TestCodeOfWrongRules(t *testing.T) {
	for _, r := range greats() {
		got, err := rule.Code(r)
		wantFault(t, "a rule that is not small", err, api.TooBig, 0)
		if len(got) != 0 {
			t.Errorf("%v beside an error", got)
		}
	}
	for _, x := range wrongs() {
		got, err := rule.Code(x.r)
		wantFault(t, x.what, err, api.BadRule, x.at)
		if len(got) != 0 {
			t.Errorf("%s: %v beside an error", x.what, got)
		}
	}
}

func TestFromOfWrongArguments(t *testing.T) {
	huge := slices.Repeat(api.Nat{math.MaxUint32}, 1000)
	for _, x := range []struct {
		what      string
		k, radius int
		code      api.Nat
		inner     error
		at        int
	}{
		{"no symbols", 0, 1, nil, api.BadArg, 0},
		{"five symbols", 5, 0, nil, api.BadArg, 0},
		{"the greatest number of symbols", math.MaxInt, 0, nil, api.BadArg, 0},
		{"2^32 + 2 symbols", 1<<32 + 2, 1, nil, api.BadArg, 0},
		{"a radius of -1", 2, -1, nil, api.BadArg, 0},
		{"a radius of 4", 2, 4, nil, api.BadArg, 0},
		{"the greatest radius", 1, math.MaxInt, nil, api.BadArg, 0},
		{"the radius ahead of the size", 4, 4, nil, api.BadArg, 0},
		{"k ahead of the number", 0, 1, huge, api.BadArg, 0},
		{"1024 windows", 4, 2, nil, api.TooBig, 0},
		{"16384 windows", 4, 3, nil, api.TooBig, 0},
		{"2187 windows", 3, 3, api.Nat{5}, api.TooBig, 0},
		{"the size ahead of the number", 4, 2, huge, api.TooBig, 0},
		{"256", 2, 1, api.Nat{256}, api.BadArg, 1},
		{"one symbol at 1", 1, 0, api.Nat{1}, api.BadArg, 1},
		{"a low limb that would do", 2, 1, api.Nat{110, 1}, api.BadArg, 1},
		{"a great number", 2, 3, huge, api.BadArg, 1},
	} {
		r, err := rule.From(x.k, x.radius, x.code)
		wantFault(t, x.what, err, x.inner, x.at)
		wantNone(t, x.what, r)
	}
}

// P4.5 and P4.6

func TestTextAndParse(t *testing.T) {
	rules := some()
	for number := range 256 {
		rules = append(rules, elementary(number))
	}
	for _, r := range rules {
		if !small(r.K, r.R) {
			continue
		}
		want := strconv.Itoa(r.K) + "." + strconv.Itoa(r.R) + "." + code(r).String()
		if s, err := rule.Text(r); s != want || err != nil {
			t.Errorf("Text of K %d, R %d, %v: %q, %v, want %q", r.K, r.R, r.Table, s, err, want)
		}
		if got, err := rule.Parse(want); err != nil || !same(got, r) {
			t.Errorf("Parse of %q: %v, %v", want, got, err)
		}
	}
	if s, err := rule.Text(elementary(110)); s != "2.1.110" || err != nil {
		t.Errorf("rule 110: %q, %v", s, err)
	}
	if s, err := rule.Text(api.Rule{K: 1, R: 3, Table: []int{0}}); s != "1.3.0" || err != nil {
		t.Errorf("one symbol: %q, %v", s, err)
	}
}

func TestTextOfWrongRules(t *testing.T) {
	for _, r := range greats() {
		s, err := rule.Text(r)
		wantFault(t, "a rule that is not small", err, api.TooBig, 0)
		if s != "" {
			t.Errorf("%q beside an error", s)
		}
	}
	for _, x := range wrongs() {
		s, err := rule.Text(x.r)
		wantFault(t, x.what, err, api.BadRule, x.at)
		if s != "" {
			t.Errorf("%s: %q beside an error", x.what, s)
		}
	}
}

func TestParseOfWrongTexts(t *testing.T) {
	for _, x := range []struct {
		s     string
		inner error
		at    int
	}{
		{strings.Repeat("x", api.MaxText+1), api.TooBig, 0},
		{"2.1." + strings.Repeat("0", api.MaxText-3), api.TooBig, 0},
		{strings.Repeat("x", api.MaxText), api.BadText, 0},
		{"", api.BadText, 0},
		{"0", api.BadText, 0},
		{"5.1.0", api.BadText, 0},
		{"0.1.0", api.BadText, 0},
		{"9,9,", api.BadText, 0},
		{"/.1.0", api.BadText, 0},
		{" 2.1.0", api.BadText, 0},
		{"-2.1.0", api.BadText, 0},
		{"\xb2.1.0", api.BadText, 0},
		{"\u0662.1.0", api.BadText, 0},
		{"x", api.BadText, 0},
		{".2.1.0", api.BadText, 0},
		{"1", api.BadText, 1},
		{"4", api.BadText, 1},
		{"2,1.0", api.BadText, 1},
		{"22.1.0", api.BadText, 1},
		{"2-", api.BadText, 1},
		{"2/9/", api.BadText, 1},
		{"2\x00", api.BadText, 1},
		{"2.", api.BadText, 2},
		{"2.4.0", api.BadText, 2},
		{"2.9", api.BadText, 2},
		{"2.-1.0", api.BadText, 2},
		{"2./.0", api.BadText, 2},
		{"2..1", api.BadText, 2},
		{"2.x,", api.BadText, 2},
		{"4.4.0", api.BadText, 2},
		{"2.1", api.BadText, 3},
		{"2.1,110", api.BadText, 3},
		{"2.11.0", api.BadText, 3},
		{"2.1 .0", api.BadText, 3},
		{"4.2", api.BadText, 3},
		{"4.3,", api.BadText, 3},
		{"4.2.0", api.TooBig, 0},
		{"4.3.0", api.TooBig, 0},
		{"3.3.0", api.TooBig, 0},
		{"4.2.", api.TooBig, 0},
		{"4.2.x", api.TooBig, 0},
		{"4.2." + strings.Repeat("1", 1300), api.TooBig, 0},
		{"2.1.256", api.BadArg, 4},
		{"2.0.4", api.BadArg, 4},
		{"1.0.1", api.BadArg, 4},
		{"1.3.1", api.BadArg, 4},
		{"2.1.4294967406", api.BadArg, 4},
		{"2.3." + strings.Repeat("9", api.MaxDigits), api.BadArg, 4},
	} {
		r, err := rule.Parse(x.s)
		wantFault(t, x.s, err, x.inner, x.at)
		wantNone(t, x.s, r)
	}
}

// The errors of nat.Parse come through rule at 4, whatever is wrong.
func TestParseOfWrongNumbers(t *testing.T) {
	for _, x := range []struct {
		s     string
		inner error
		at    int
	}{
		{"2.1.", api.BadText, 0},
		{"1.0.", api.BadText, 0},
		{"4.1.", api.BadText, 0},
		{"2.1.1x", api.BadText, 1},
		{"2.1.x", api.BadText, 0},
		{"2.1.011", api.BadText, 0},
		{"2.1.00", api.BadText, 0},
		{"2.1.-1", api.BadText, 0},
		{"2.1.110 ", api.BadText, 3},
		{"2.1.110\n", api.BadText, 3},
		{"2.1.999x", api.BadText, 3},
		{"2.1.1.1", api.BadText, 1},
		{"2.1." + strings.Repeat("1", api.MaxDigits+1), api.TooBig, 0},
		{"2.1." + strings.Repeat("x", api.MaxDigits+1), api.TooBig, 0},
		{"2.1." + strings.Repeat("0", api.MaxText-4), api.TooBig, 0},
	} {
		r, err := rule.Parse(x.s)
		wantNone(t, x.s, r)
		outer, ok := err.(*api.Fault)
		if !ok || outer.Op != "rule" || outer.At != 4 {
			t.Errorf("%q: %v", x.s, err)
			continue
		}
		inner, ok := outer.Err.(*api.Fault)
		if !ok || inner.Op != "nat" || inner.At != x.at || inner.Err != x.inner {
			t.Errorf("%q: %v, want rule 4: nat %d: %v", x.s, err, x.at, x.inner)
		}
	}
}

// P4.7

// guarded is w with spare capacity, which holds -77.
func guarded(w []int) []int {
	room := slices.Repeat([]int{-77}, len(w)+8)
	copy(room, w)
	return room[:len(w)]
}

// intact tells whether w is still want, and its spare capacity is as guarded made it.
func intact(w, want []int) bool {
	spare := w[len(w):cap(w)]
	return slices.Equal(w, want) && !slices.ContainsFunc(spare, func(x int) bool { return x != -77 })
}

// spoil overwrites a result with all of its memory.
func spoil[T ~[]E, E int | uint32](w T) {
	w = w[:cap(w)]
	for i := range w {
		w[i] = 99
	}
}

func TestArgumentsStay(t *testing.T) {
	bad := with(4, 2)
	for _, r := range append(some(), bad, api.Rule{K: 2, R: 1, Table: []int{0, 1}}) {
		for _, w := range [][]int{{}, {0}, {0, 0, 0}, {0, 0, 0, 0, 0, 0, 0}, {0, 9, 0}, mixed(r.K, 7, 5), mixed(r.K, 60, 6)} {
			arg, v := r, guarded(w)
			arg.Table = guarded(r.Table)
			_ = rule.Check(arg)
			_ = rule.Small(arg)
			_, _ = rule.Local(arg, v)
			number, _ := rule.Code(arg)
			_, _ = rule.Text(arg)
			first, _ := rule.Step(arg, v)
			want := slices.Clone(first)
			spoil(first)
			spoil(number)
			if !intact(arg.Table, r.Table) || !intact(v, w) {
				t.Errorf("K %d, R %d: an argument has changed, %v", r.K, r.R, w)
			}
			if again, _ := rule.Step(arg, v); !slices.Equal(again, want) {
				t.Errorf("K %d, R %d: the image of %v is %v, and then %v", r.K, r.R, w, want, again)
			}
		}
	}
}

func TestFromAndParseAnswerNewRules(t *testing.T) {
	for _, number := range []api.Nat{nil, {0}, {110}, {110, 0}, {255}, {256}, {1, 1}} {
		room := append(slices.Clone(number), 77, 78)
		first, err := rule.From(2, 1, room[:len(number)])
		want := slices.Clone(first.Table)
		spoil(first.Table)
		if !slices.Equal(room, append(slices.Clone(number), 77, 78)) {
			t.Errorf("From changes %v", number)
		}
		again, other := rule.From(2, 1, room[:len(number)])
		if !slices.Equal(again.Table, want) || (err == nil) != (other == nil) {
			t.Errorf("From of %v is %v, and then %v", number, want, again.Table)
		}
	}
	first, err := rule.Parse("2.1.110")
	if err != nil {
		t.Fatal(err)
	}
	spoil(first.Table)
	if again, err := rule.Parse("2.1.110"); err != nil || !same(again, elementary(110)) {
		t.Errorf("Parse of one text twice: %v, %v", again, err)
	}
}
