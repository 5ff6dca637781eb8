package forms_test

import (
	"math"
	"slices"
	"testing"

	"eden/api"
	"eden/forms"
)

// wantFault demands one Fault of forms with the number at, that wraps inner.
func wantFault(t *testing.T, what string, err, inner error, at int) {
	t.Helper()
	f, ok := err.(*api.Fault)
	if !ok || f.Op != "forms" || f.At != at || f.Err != inner {
		t.Errorf("%s: %v, want forms %d: %v", what, err, at, inner)
	}
}

// wantRuleFault demands a Fault of forms with the number outer, that wraps one of rule with the number inner, that wraps BadRule.
func wantRuleFault(t *testing.T, what string, err error, outer, inner int) {
	t.Helper()
	f, ok := err.(*api.Fault)
	if !ok || f.Op != "forms" || f.At != outer {
		t.Errorf("%s: %v, want forms %d: rule %d: bad rule", what, err, outer, inner)
		return
	}
	g, ok := f.Err.(*api.Fault)
	if !ok || g.Op != "rule" || g.At != inner || g.Err != api.BadRule {
		t.Errorf("%s: %v, want forms %d: rule %d: bad rule", what, err, outer, inner)
	}
}

// wantNone demands the rule that stands beside an error.
func wantNone(t *testing.T, what string, r api.Rule) {
	t.Helper()
	if r.K != 0 || r.R != 0 || len(r.Table) != 0 {
		t.Errorf("%s: %v beside an error", what, r)
	}
}

// wantRule demands this rule and no error.
func wantRule(t *testing.T, what string, got api.Rule, err error, want api.Rule) {
	t.Helper()
	if err != nil || !same(got, want) {
		t.Errorf("%s: K %d, R %d, %v, %v, want K %d, R %d, %v", what, got.K, got.R, got.Table, err, want.K, want.R, want.Table)
	}
}

// same tells whether two rules are equal.
func same(a, b api.Rule) bool {
	return a.K == b.K && a.R == b.R && slices.Equal(a.Table, b.Table)
}

// sizes are the numbers of windows: a line for each number of symbols, a column for each radius.
var sizes = [5][4]int{{}, {1, 1, 1, 1}, {2, 8, 32, 128}, {3, 27, 243, 2187}, {4, 64, 1024, 16384}}

// mixed is a word with n symbols that look like chance, the same for the same seed.
func mixed(k, n int, seed uint64) []int {
	w := make([]int, n)
	for i := range w {
		seed = seed*6364136223846793005 + 1442695040888963407
		w[i] = int(seed >> 33 % uint64(k))
	}
	return w
}

// some are rules of all sizes: for each size one whose table looks like chance, one of the least and one of the greatest symbol.
func some() []api.Rule {
	var rules []api.Rule
	for k := 1; k <= 4; k++ {
		for radius := range 4 {
			n := sizes[k][radius]
			rules = append(rules,
				api.Rule{K: k, R: radius, Table: mixed(k, n, uint64(10*k+radius))},
				api.Rule{K: k, R: radius, Table: make([]int, n)},
				api.Rule{K: k, R: radius, Table: slices.Repeat([]int{k - 1}, n)})
		}
	}
	return rules
}

// windows are the windows over k symbols of n cells, in the order of their numbers.
func windows(k, n int) [][]int {
	if n == 0 {
		return [][]int{{}}
	}
	var words [][]int
	for first := range k {
		for _, rest := range windows(k, n-1) {
			words = append(words, append([]int{first}, rest...))
		}
	}
	return words
}

// elementary is the rule of two symbols and radius 1 whose entries are the bits of code.
func elementary(code int) api.Rule {
	table := make([]int, 8)
	for i := range table {
		table[i] = code >> i & 1
	}
	return api.Rule{K: 2, R: 1, Table: table}
}

// symbol is the symbol of the window w under r.
func symbol(r api.Rule, w []int) int {
	number := 0
	for _, x := range w {
		number = number*r.K + x
	}
	return r.Table[number]
}

// image is the image of w under r, window by window.
func image(r api.Rule, w []int) []int {
	var v []int
	for i := 0; i+2*r.R < len(w); i++ {
		v = append(v, symbol(r, w[i:i+2*r.R+1]))
	}
	return v
}

// of is the rule in which each window has the symbol that f tells.
func of(k, radius int, f func(w []int) int) api.Rule {
	r := api.Rule{K: k, R: radius}
	for _, w := range windows(k, 2*radius+1) {
		r.Table = append(r.Table, f(w))
	}
	return r
}

// with is the rule r with another entry i.
func with(r api.Rule, i, entry int) api.Rule {
	r.Table = slices.Clone(r.Table)
	r.Table[i] = entry
	return r
}

// wrong is a rule that rule.Check rejects.
type wrong struct {
	what string
	r    api.Rule
	at   int
}

func wrongs() []wrong {
	return []wrong{
		{"no rule", api.Rule{}, 0},
		{"seven symbols", api.Rule{K: 7}, 0},
		{"the least number of symbols", api.Rule{K: math.MinInt, R: 1, Table: make([]int, 8)}, 0},
		{"the greatest number of symbols", api.Rule{K: math.MaxInt, R: math.MaxInt}, 0},
		{"a radius of -1", api.Rule{K: 2, R: -1, Table: []int{0}}, 1},
		{"a radius of 4", api.Rule{K: 1, R: 4, Table: []int{0}}, 1},
		{"the greatest radius", api.Rule{K: 2, R: math.MaxInt, Table: make([]int, 8)}, 1},
		{"the least radius", api.Rule{K: 1, R: math.MinInt, Table: []int{0}}, 1},
		{"seven entries", api.Rule{K: 2, R: 1, Table: make([]int, 7)}, 2},
		{"nine entries", api.Rule{K: 2, R: 1, Table: make([]int, 9)}, 2},
		{"no entries", api.Rule{K: 1, R: 0}, 2},
		{"entry 0", with(elementary(110), 0, 2), 3},
		{"entry 7", with(elementary(110), 7, -1), 10},
		{"the greatest symbol", with(elementary(110), 5, math.MaxInt), 8},
		{"the last entry of the greatest rule", with(api.Rule{K: 4, R: 3, Table: make([]int, 16384)}, 16383, 4), 3 + 16383},
	}
}

// permutations are the permutations of k symbols.
func permutations(k int) [][]int {
	var all [][]int
	for _, w := range windows(k, k) {
		if sorted := slices.Sorted(slices.Values(w)); len(slices.Compact(sorted)) == k {
			all = append(all, w)
		}
	}
	return all
}

// P5.1

func TestShift(t *testing.T) {
	for k := 1; k <= 4; k++ {
		for d := -3; d <= 3; d++ {
			radius := max(d, -d)
			got, err := forms.Shift(k, d)
			wantRule(t, "Shift", got, err, of(k, radius, func(w []int) int { return w[radius+d] }))
		}
	}
}

func TestShiftOfTheExamples(t *testing.T) {
	for _, x := range []struct {
		d    int
		want api.Rule
	}{
		{1, elementary(170)}, {-1, elementary(240)}, {0, api.Rule{K: 2, R: 0, Table: []int{0, 1}}},
	} {
		got, err := forms.Shift(2, x.d)
		wantRule(t, "example 1", got, err, x.want)
	}
}

func TestShiftOfWrongArguments(t *testing.T) {
	for _, x := range [][2]int{
		{0, 0}, {5, 0}, {-1, 0}, {-2, 2}, {math.MaxInt, 1}, {math.MinInt, -1}, {1<<32 + 2, 1},
		{2, 4}, {2, -4}, {1, 4}, {1, -4}, {4, 64}, {2, math.MaxInt}, {2, math.MinInt}, {2, -math.MaxInt}, {2, 1<<32 + 1}, {0, 4}, {5, -4},
	} {
		r, err := forms.Shift(x[0], x[1])
		wantFault(t, "Shift", err, api.BadArg, 0)
		wantNone(t, "Shift", r)
	}
}

// P5.2

func TestMirror(t *testing.T) {
	rules := some()
	for code := range 256 {
		rules = append(rules, elementary(code))
	}
	for _, r := range rules {
		want := of(r.K, r.R, func(w []int) int {
			back := slices.Clone(w)
			slices.Reverse(back)
			return symbol(r, back)
		})
		got, err := forms.Mirror(r)
		wantRule(t, "Mirror", got, err, want)
		twice, err := forms.Mirror(got)
		wantRule(t, "Mirror twice", twice, err, r)
	}
	got, err := forms.Mirror(elementary(110))
	wantRule(t, "example 2", got, err, elementary(124))
}

func TestMirrorOfWrongRules(t *testing.T) {
	for _, x := range wrongs() {
		r, err := forms.Mirror(x.r)
		wantRuleFault(t, x.what, err, 0, x.at)
		wantNone(t, x.what, r)
	}
}

// P5.3

func TestRename(t *testing.T) {
	for _, r := range some() {
		for _, p := range permutations(r.K) {
			if len(r.Table) > 2187 && p[0] != 2 {
				continue // The greatest table takes long.
			}
			got, err := forms.Rename(r, p)
			if err != nil || got.K != r.K || got.R != r.R || len(got.Table) != len(r.Table) {
				t.Errorf("K %d, R %d by %v: %v", r.K, r.R, p, err)
				continue
			}
			for number, w := range windows(r.K, 2*r.R+1) {
				renamed := slices.Clone(w)
				for i, x := range w {
					renamed[i] = p[x]
				}
				if y := symbol(got, renamed); y != p[r.Table[number]] {
					t.Errorf("K %d, R %d by %v: %v has %d", r.K, r.R, p, renamed, y)
				}
			}
		}
	}
}

func TestRenameOfTheExamples(t *testing.T) {
	got, err := forms.Rename(elementary(110), []int{1, 0})
	wantRule(t, "example 2", got, err, elementary(137))
	// Three symbols that go around: a permutation that is not its own inverse.
	r := api.Rule{K: 3, R: 0, Table: []int{1, 1, 0}}
	got, err = forms.Rename(r, []int{1, 2, 0})
	wantRule(t, "around", got, err, api.Rule{K: 3, R: 0, Table: []int{1, 2, 2}})
	got, err = forms.Rename(r, []int{0, 1, 2})
	wantRule(t, "nothing renamed", got, err, r)
}

func TestRenameOfWrongArguments(t *testing.T) {
	for _, x := range wrongs() {
		for _, p := range [][]int{nil, {0, 1}, {5, 5}} {
			r, err := forms.Rename(x.r, p)
			wantRuleFault(t, x.what, err, 0, x.at)
			wantNone(t, x.what, r)
		}
	}
	three := api.Rule{K: 3, R: 1, Table: mixed(3, 27, 5)}
	for _, x := range []struct {
		r api.Rule
		p []int
	}{
		{elementary(110), nil}, {elementary(110), []int{0}}, {elementary(110), []int{0, 0}}, {elementary(110), []int{1, 1}},
		{elementary(110), []int{0, 1, 2}}, {elementary(110), []int{0, 1, 0}}, {elementary(110), []int{1, 2}}, {elementary(110), []int{-1, 0}},
		{elementary(110), []int{0, math.MaxInt}}, {elementary(110), []int{math.MinInt, 1}}, {elementary(110), []int{1 << 32, 1}},
		{three, []int{0, 1}}, {three, []int{0, 1, 1}}, {three, []int{2, 0, 2}}, {three, []int{0, 1, 3}}, {three, []int{0, 1, 2, 3}}, {three, []int{0, 1, -1}},
		{api.Rule{K: 1, R: 2, Table: []int{0}}, nil}, {api.Rule{K: 1, R: 2, Table: []int{0}}, []int{1}}, {api.Rule{K: 1, R: 2, Table: []int{0}}, []int{0, 0}},
	} {
		r, err := forms.Rename(x.r, x.p)
		wantFault(t, "Rename", err, api.BadArg, 0)
		wantNone(t, "Rename", r)
	}
}

// P5.4

// wide is the rule of the greater radius in which each window has the symbol that r has for its middle.
func wide(r api.Rule, radius int) api.Rule {
	return of(r.K, radius, func(w []int) int { return symbol(r, w[radius-r.R:radius+r.R+1]) })
}

func TestWiden(t *testing.T) {
	for _, r := range some() {
		for radius := r.R; radius <= 3; radius++ {
			got, err := forms.Widen(r, radius)
			wantRule(t, "Widen", got, err, wide(r, radius))
		}
	}
	got, err := forms.Widen(api.Rule{K: 2, R: 0, Table: []int{0, 1}}, 1)
	wantRule(t, "example 3", got, err, elementary(204))
}

func TestWidenOfWrongArguments(t *testing.T) {
	for _, x := range wrongs() {
		for _, radius := range []int{0, 3, -1, 4} {
			r, err := forms.Widen(x.r, radius)
			wantRuleFault(t, x.what, err, 0, x.at)
			wantNone(t, x.what, r)
		}
	}
	for _, r := range some() {
		for _, radius := range []int{r.R - 1, -1, 4, math.MaxInt, math.MinInt, 1<<32 + 3} {
			got, err := forms.Widen(r, radius)
			wantFault(t, "Widen", err, api.BadArg, 0)
			wantNone(t, "Widen", got)
		}
	}
}

// outward tells whether the symbol of a window depends on its first or its last symbol.
func outward(r api.Rule) bool {
	for number, w := range windows(r.K, 2*r.R+1) {
		inner := slices.Clone(w)
		inner[0], inner[2*r.R] = 0, 0
		if symbol(r, inner) != r.Table[number] {
			return true
		}
	}
	return false
}

func TestNarrow(t *testing.T) {
	for _, r := range some() {
		if r.R > 0 && !outward(r) {
			continue
		}
		for radius := r.R; radius <= 3; radius++ {
			got, err := forms.Narrow(wide(r, radius))
			wantRule(t, "Narrow", got, err, r)
		}
	}
	for code := range 256 {
		r := elementary(code)
		want := r
		if !outward(r) {
			want = api.Rule{K: 2, R: 0, Table: []int{r.Table[0], r.Table[2]}}
		}
		for radius := 1; radius <= 3; radius++ {
			got, err := forms.Narrow(wide(r, radius))
			wantRule(t, "Narrow", got, err, want)
		}
	}
}

func TestNarrowOfConstants(t *testing.T) {
	for k := 1; k <= 4; k++ {
		for radius := range 4 {
			for symbol := range k {
				got, err := forms.Narrow(api.Rule{K: k, R: radius, Table: slices.Repeat([]int{symbol}, sizes[k][radius])})
				wantRule(t, "a constant", got, err, api.Rule{K: k, R: 0, Table: slices.Repeat([]int{symbol}, k)})
			}
		}
	}
}

// What a rule depends on may lie on one side alone.
func TestNarrowOfOneSide(t *testing.T) {
	for k := 2; k <= 4; k++ {
		for radius := range 4 {
			for place := range 2*radius + 1 {
				d := max(place-radius, radius-place)
				got, err := forms.Narrow(of(k, radius, func(w []int) int { return w[place] }))
				wantRule(t, "one symbol", got, err, of(k, d, func(w []int) int { return w[place-radius+d] }))
			}
		}
	}
}

// A rule that differs from a narrower one in a single entry, whichever it is, is as narrow as it can be.
func TestNarrowOfAlmostNarrowRules(t *testing.T) {
	for _, r := range some() {
		if r.K == 1 || r.R == 3 {
			continue
		}
		for radius := r.R + 1; radius <= 3; radius++ {
			w := wide(r, radius)
			for i := 0; i < len(w.Table); i += 1 + len(w.Table)/200 {
				almost := with(w, i, (w.Table[i]+1)%r.K)
				got, err := forms.Narrow(almost)
				wantRule(t, "almost narrow", got, err, almost)
			}
		}
	}
}

func TestNarrowOfTheExamples(t *testing.T) {
	got, err := forms.Narrow(elementary(204))
	wantRule(t, "204", got, err, api.Rule{K: 2, R: 0, Table: []int{0, 1}})
	got, err = forms.Narrow(elementary(110))
	wantRule(t, "110", got, err, elementary(110))
	r, err := forms.Widen(elementary(110), 0)
	wantFault(t, "example 3", err, api.BadArg, 0)
	wantNone(t, "example 3", r)
}

func TestNarrowOfWrongRules(t *testing.T) {
	for _, x := range wrongs() {
		r, err := forms.Narrow(x.r)
		wantRuleFault(t, x.what, err, 0, x.at)
		wantNone(t, x.what, r)
	}
}

// P5.5

// behind is the rule that applies b's map and then a's, window by window.
func behind(a, b api.Rule) api.Rule {
	return of(a.K, a.R+b.R, func(w []int) int { return image(a, image(b, w))[0] })
}

func TestCompose(t *testing.T) {
	for _, a := range some() {
		for _, b := range some() {
			if a.K == b.K && a.R+b.R <= 3 {
				got, err := forms.Compose(a, b)
				wantRule(t, "Compose", got, err, behind(a, b))
			}
		}
	}
	for a := range 256 {
		for b := a % 5; b < 256; b += 5 {
			got, err := forms.Compose(elementary(a), elementary(b))
			wantRule(t, "Compose", got, err, behind(elementary(a), elementary(b)))
		}
	}
}

func TestComposeOfTheExamples(t *testing.T) {
	got, err := forms.Compose(elementary(170), elementary(240))
	wantRule(t, "170 behind 240", got, err, of(2, 2, func(w []int) int { return w[2] }))
	// A negation after a constant makes another constant, a negation ahead of it the same one.
	not := api.Rule{K: 2, R: 0, Table: []int{1, 0}}
	got, err = forms.Compose(not, elementary(255))
	wantRule(t, "a negation after", got, err, elementary(0))
	got, err = forms.Compose(elementary(255), not)
	wantRule(t, "a negation ahead", got, err, elementary(255))
}

func TestComposeOfWrongArguments(t *testing.T) {
	three := api.Rule{K: 3, R: 0, Table: []int{0, 1, 2}}
	for _, x := range wrongs() {
		for _, other := range []api.Rule{elementary(110), three, {K: 2, R: 3, Table: make([]int, 128)}, {K: 4, R: 3, Table: make([]int, 16384)}} {
			r, err := forms.Compose(x.r, other)
			wantRuleFault(t, x.what, err, 0, x.at)
			wantNone(t, x.what, r)
			r, err = forms.Compose(other, x.r)
			wantRuleFault(t, x.what, err, 1, x.at)
			wantNone(t, x.what, r)
		}
		for _, y := range wrongs() {
			r, err := forms.Compose(x.r, y.r)
			wantRuleFault(t, x.what, err, 0, x.at)
			wantNone(t, x.what, r)
		}
	}
}

func TestComposeOfUnlikeRules(t *testing.T) {
	for _, a := range some() {
		for _, b := range some() {
			got, err := forms.Compose(a, b)
			if a.K != b.K {
				wantFault(t, "other symbols", err, api.BadArg, 1)
				wantNone(t, "other symbols", got)
			} else if a.R+b.R > 3 {
				wantFault(t, "a great radius", err, api.TooBig, 0)
				wantNone(t, "a great radius", got)
			}
		}
	}
}

func TestPower(t *testing.T) {
	for _, r := range some() {
		want := of(r.K, 0, func(w []int) int { return w[0] })
		for n := 0; n <= 30 && r.R*n <= 3; n++ {
			got, err := forms.Power(r, n)
			wantRule(t, "Power", got, err, want)
			if r.R*(n+1) <= 3 {
				want = behind(want, r)
			}
		}
	}
	for code := range 256 {
		r := elementary(code)
		two, err := forms.Power(r, 2)
		wantRule(t, "twice", two, err, behind(r, r))
		three, err := forms.Power(r, 3)
		wantRule(t, "three times", three, err, behind(r, behind(r, r)))
	}
}

// With radius 0 and at most four symbols, the steps go around after at most three, in circles whose lengths divide 12.
func TestPowerManyTimes(t *testing.T) {
	for k := 1; k <= 4; k++ {
		for _, table := range windows(k, k) {
			r := api.Rule{K: k, R: 0, Table: table}
			for _, n := range []int{12, 1000, 1<<31 - 1, 1 << 31, 1<<32 + 5, 1 << 62, 1<<62 + 1, math.MaxInt - 1, math.MaxInt} {
				want := of(k, 0, func(w []int) int { return w[0] })
				for range 12 + n%12 {
					want = behind(r, want)
				}
				got, err := forms.Power(r, n)
				wantRule(t, "many times", got, err, want)
			}
		}
	}
}

// P0.1: one step of the power is t steps of the rule, on every ring.
func TestPowerOnRings(t *testing.T) {
	// On a ring, step is the image of a word that holds the neighbors of both ends as well.
	step := func(r api.Rule, ring []int) []int {
		var w []int
		for i := -r.R; i < len(ring)+r.R; i++ {
			w = append(w, ring[(i+3*len(ring))%len(ring)])
		}
		return image(r, w)
	}
	for code := range 256 {
		for n := 1; n <= 8; n++ {
			ring := mixed(2, n, uint64(256*n+code))
			want := ring
			for times := range 4 {
				power, err := forms.Power(elementary(code), times)
				if err != nil || !slices.Equal(step(power, ring), want) {
					t.Errorf("rule %d, %d times, on %v: not %v, %v", code, times, ring, want, err)
				}
				want = step(elementary(code), want)
			}
		}
	}
}

func TestPowerOfTheExamples(t *testing.T) {
	two, err := forms.Power(elementary(90), 2)
	wantRule(t, "90 twice", two, err, of(2, 2, func(w []int) int { return (w[0] + w[4]) % 2 }))
	got, err := forms.Power(elementary(90), 4)
	wantFault(t, "90 four times", err, api.TooBig, 0)
	wantNone(t, "90 four times", got)
	not := api.Rule{K: 2, R: 0, Table: []int{1, 0}}
	got, err = forms.Power(not, 1<<62+1)
	wantRule(t, "a negation many times", got, err, not)
}

func TestPowerOfWrongArguments(t *testing.T) {
	for _, x := range wrongs() {
		for _, n := range []int{0, 1, -1, math.MaxInt, math.MinInt} {
			r, err := forms.Power(x.r, n)
			wantRuleFault(t, x.what, err, 0, x.at)
			wantNone(t, x.what, r)
		}
	}
	for _, r := range some() {
		for _, n := range []int{-1, -2, -1 << 32, math.MinInt} {
			got, err := forms.Power(r, n)
			wantFault(t, "a negative number of times", err, api.BadArg, 0)
			wantNone(t, "a negative number of times", got)
		}
		if r.R == 0 {
			continue
		}
		// Many of these numbers, times 1, 2 or 3, overflow to a small one.
		for _, n := range []int{3/r.R + 1, 4, 5, 1 << 32, 1 << 62, 1<<62 + 1, 1 << 63 / 3, 1<<63/3 + 1, 1 << 63 / 3 * 2, math.MaxInt/2 + 1, math.MaxInt} {
			got, err := forms.Power(r, n)
			wantFault(t, "a great radius", err, api.TooBig, 0)
			wantNone(t, "a great radius", got)
		}
	}
}

// P5.6

// wantSame demands this answer of Same, whichever rule comes first.
func wantSame(t *testing.T, a, b api.Rule, want bool) {
	t.Helper()
	one, first := forms.Same(a, b)
	other, second := forms.Same(b, a)
	if one != want || other != want || first != nil || second != nil {
		t.Errorf("K %d, R %d, %v and K %d, R %d, %v: %v, %v, %v, %v", a.K, a.R, a.Table, b.K, b.R, b.Table, one, first, other, second)
	}
}

func TestSame(t *testing.T) {
	rules := some()
	var wides []api.Rule
	for _, r := range rules {
		wides = append(wides, wide(r, 3))
	}
	for i, a := range rules {
		for j, b := range rules {
			wantSame(t, a, b, same(wides[i], wides[j]))
		}
	}
	for a := range 256 {
		for b := range 256 {
			wantSame(t, elementary(a), elementary(b), a == b)
		}
		for radius := 1; radius <= 3; radius++ {
			wantSame(t, elementary(a), wide(elementary(a), radius), true)
			wantSame(t, wide(elementary(a), 2), wide(elementary(255-a), radius), false)
		}
	}
}

func TestSameOfOneSymbol(t *testing.T) {
	for a := range 4 {
		for b := range 4 {
			wantSame(t, api.Rule{K: 1, R: a, Table: []int{0}}, api.Rule{K: 1, R: b, Table: []int{0}}, true)
		}
		wantSame(t, api.Rule{K: 1, R: a, Table: []int{0}}, api.Rule{K: 2, R: 0, Table: []int{0, 0}}, false)
	}
}

// One entry, whichever it is, makes another map.
func TestSameOfAlmostSameRules(t *testing.T) {
	for _, r := range some() {
		if r.K == 1 || len(r.Table) > 243 {
			continue
		}
		for i := range r.Table {
			other := with(r, i, (r.Table[i]+1)%r.K)
			wantSame(t, r, other, false)
			if len(r.Table) <= 32 {
				wantSame(t, wide(r, 3), other, false)
			}
		}
	}
}

func TestSameOfTheExamples(t *testing.T) {
	c, err := forms.Compose(elementary(170), elementary(240))
	if err != nil {
		t.Fatal(err)
	}
	wantSame(t, c, elementary(204), true)
	wantSame(t, c, elementary(170), false)
	// The same table says other things of other symbols.
	wantSame(t, api.Rule{K: 2, R: 0, Table: []int{0, 1}}, api.Rule{K: 3, R: 0, Table: []int{0, 1, 2}}, false)
}

func TestSameOfWrongRules(t *testing.T) {
	three := api.Rule{K: 3, R: 0, Table: []int{0, 1, 2}}
	for _, x := range wrongs() {
		for _, other := range []api.Rule{elementary(110), three} {
			is, err := forms.Same(x.r, other)
			wantRuleFault(t, x.what, err, 0, x.at)
			if is {
				t.Errorf("%s: true beside an error", x.what)
			}
			is, err = forms.Same(other, x.r)
			wantRuleFault(t, x.what, err, 1, x.at)
			if is {
				t.Errorf("%s: true beside an error", x.what)
			}
		}
		for _, y := range wrongs() {
			is, err := forms.Same(x.r, y.r)
			wantRuleFault(t, x.what, err, 0, x.at)
			if is {
				t.Errorf("%s: true beside an error", x.what)
			}
		}
	}
}

// P5.7

// guarded is w with spare capacity, which holds -77.
func guarded(w []int) []int {
	room := slices.Repeat([]int{-77}, len(w)+8)
	copy(room, w)
	return room[:len(w)]
}

// intact tells whether w is still want, and its spare capacity is as guarded made it.
func intact(w, want []int) bool {
	spare := w[len(w):cap(w)]
	return slices.Equal(w, want) && !slices.ContainsFunc(spare, func(x int) bool { return x != -77 })
}

// spoil overwrites a result with all of its memory.
func spoil(w []int) {
	w = w[:cap(w)]
	for i := range w {
		w[i] = 99
	}
}

// calls are the results of all calls for r and p.
func calls(r api.Rule, p []int) []api.Rule {
	var results []api.Rule
	keep := func(r api.Rule, _ error) { results = append(results, r) }
	keep(forms.Shift(r.K, r.R))
	keep(forms.Shift(r.K, -r.R))
	keep(forms.Mirror(r))
	keep(forms.Rename(r, p))
	for radius := range 4 {
		keep(forms.Widen(r, radius))
	}
	keep(forms.Narrow(r))
	keep(forms.Compose(r, r))
	keep(forms.Compose(r, api.Rule{K: 2, R: 0, Table: []int{0, 1}}))
	for times := range 4 {
		keep(forms.Power(r, times))
	}
	_, _ = forms.Same(r, r)
	return results
}

func TestArgumentsStayAndResultsAreNew(t *testing.T) {
	rules := append(some(), elementary(110), elementary(204), with(elementary(110), 4, 2))
	for _, r := range rules {
		for _, p := range [][]int{{}, {0}, {0, 1}, {1, 0}, {0, 1, 2}, {2, 0, 1}, {0, 1, 2, 3}, {3, 1, 0, 2}, {7, 7}} {
			arg, q := r, guarded(p)
			arg.Table = guarded(r.Table)
			results := calls(arg, q)
			var wants []api.Rule
			for _, x := range results {
				x.Table = slices.Clone(x.Table)
				wants = append(wants, x)
			}
			for i, x := range results {
				spoil(x.Table)
				for j := i + 1; j < len(results); j++ {
					if !same(results[j], wants[j]) {
						t.Errorf("K %d, R %d: results %d and %d share memory", r.K, r.R, i, j)
					}
				}
			}
			if !intact(arg.Table, r.Table) || !intact(q, p) {
				t.Errorf("K %d, R %d: an argument has changed, %v", r.K, r.R, p)
			}
			for i, x := range calls(arg, q) {
				if !same(x, wants[i]) {
					t.Errorf("K %d, R %d: result %d is %v, and then %v", r.K, r.R, i, wants[i], x)
				}
			}
		}
	}
}
