package ring_test

import (
	"math"
	"slices"
	"testing"

	"eden/api"
	"eden/fault"
	"eden/forms"
	"eden/ring"
)

// wantFault demands one Fault of ring with the number at, that wraps inner.
func wantFault(t *testing.T, what string, err, inner error, at int) {
	t.Helper()
	f, ok := err.(*api.Fault)
	if !ok || f.Op != "ring" || f.At != at || f.Err != inner {
		t.Errorf("%s: %v, want ring %d: %v", what, err, at, inner)
	}
}

// wantRuleFault demands a Fault of ring with the number 0, that wraps one of rule with this number, that wraps BadRule.
func wantRuleFault(t *testing.T, what string, err error, at int) {
	t.Helper()
	f, ok := err.(*api.Fault)
	if !ok || f.Op != "ring" || f.At != 0 {
		t.Errorf("%s: %v, want ring 0: rule %d: bad rule", what, err, at)
		return
	}
	g, ok := f.Err.(*api.Fault)
	if !ok || g.Op != "rule" || g.At != at || g.Err != api.BadRule {
		t.Errorf("%s: %v, want ring 0: rule %d: bad rule", what, err, at)
	}
}

// wantCells demands these cells and no error.
func wantCells(t *testing.T, what string, got []int, err error, want ...int) {
	t.Helper()
	if err != nil || !slices.Equal(got, want) {
		t.Errorf("%s: %v, %v, want %v", what, got, err, want)
	}
}

// sizes are the numbers of windows: a line for each number of symbols, a column for each radius.
var sizes = [5][4]int{{}, {1, 1, 1, 1}, {2, 8, 32, 128}, {3, 27, 243, 2187}, {4, 64, 1024, 16384}}

// mixed is a word with n symbols that look like chance, the same for the same seed.
func mixed(k, n int, seed uint64) []int {
	w := make([]int, n)
	for i := range w {
		seed = seed*6364136223846793005 + 1442695040888963407
		w[i] = int(seed >> 33 % uint64(k))
	}
	return w
}

// chance is a rule whose table looks like chance.
func chance(k, radius int, seed uint64) api.Rule {
	return api.Rule{K: k, R: radius, Table: mixed(k, sizes[k][radius], seed)}
}

// some are rules of all sizes.
func some() []api.Rule {
	var rules []api.Rule
	for k := 1; k <= 4; k++ {
		for radius := range 4 {
			rules = append(rules, chance(k, radius, uint64(10*k+radius)))
		}
	}
	return rules
}

// elementary is the rule of two symbols and radius 1 whose entries are the bits of code.
func elementary(code int) api.Rule {
	table := make([]int, 8)
	for i := range table {
		table[i] = code >> i & 1
	}
	return api.Rule{K: 2, R: 1, Table: table}
}

// image is the image of the ring w under r, cell by cell.
func image(r api.Rule, w []int) []int {
	n := len(w)
	v := make([]int, n)
	for i := range w {
		number := 0
		for d := -r.R; d <= r.R; d++ {
			number = number*r.K + w[(i+d+3*n)%n]
		}
		v[i] = r.Table[number]
	}
	return v
}

// later is the ring w after t steps, step by step.
func later(r api.Rule, w []int, t int) []int {
	for range t {
		w = image(r, w)
	}
	return w
}

// orbit finds by the pace of tortoise and hare when the ring w comes into a cycle, and how long that is.
func orbit(r api.Rule, w []int) (int, int) {
	slow, fast := image(r, w), later(r, w, 2)
	for !slices.Equal(slow, fast) {
		slow, fast = image(r, slow), later(r, fast, 2)
	}
	m := 0
	for slow = w; !slices.Equal(slow, fast); m++ {
		slow, fast = image(r, slow), image(r, fast)
	}
	p := 1
	for fast = image(r, slow); !slices.Equal(slow, fast); p++ {
		fast = image(r, fast)
	}
	return m, p
}

// rings are the rings over k symbols of n cells.
func rings(k, n int) [][]int {
	if n == 0 {
		return [][]int{{}}
	}
	var all [][]int
	for first := range k {
		for _, rest := range rings(k, n-1) {
			all = append(all, append([]int{first}, rest...))
		}
	}
	return all
}

// with is the word w with another number at index i.
func with(w []int, i, x int) []int {
	w = slices.Clone(w)
	w[i] = x
	return w
}

// wrongRule is a rule that rule.Check rejects.
type wrongRule struct {
	what string
	r    api.Rule
	at   int
}

func wrongRules() []wrongRule {
	table := elementary(110).Table
	return []wrongRule{
		{"no rule", api.Rule{}, 0},
		{"nine symbols", api.Rule{K: 9}, 0},
		{"the least number of symbols", api.Rule{K: math.MinInt, R: 1, Table: table}, 0},
		{"the greatest number of symbols", api.Rule{K: math.MaxInt, R: math.MaxInt}, 0},
		{"a radius of -1", api.Rule{K: 2, R: -1, Table: []int{0}}, 1},
		{"a radius of 4", api.Rule{K: 1, R: 4, Table: []int{0}}, 1},
		{"the greatest radius", api.Rule{K: 2, R: math.MaxInt, Table: table}, 1},
		{"the least radius", api.Rule{K: 2, R: math.MinInt, Table: table}, 1},
		{"seven entries", api.Rule{K: 2, R: 1, Table: table[:7]}, 2},
		{"no entries", api.Rule{K: 1, R: 0}, 2},
		{"entry 0", api.Rule{K: 2, R: 1, Table: with(table, 0, 2)}, 3},
		{"entry 7", api.Rule{K: 2, R: 1, Table: with(table, 7, -1)}, 10},
		{"the last entry of the greatest rule", api.Rule{K: 4, R: 3, Table: with(make([]int, 16384), 16383, 4)}, 3 + 16383},
	}
}

// wrongRing is a ring that is none under r.
type wrongRing struct {
	what  string
	r     api.Rule
	w     []int
	inner error
	at    int
}

func wrongRings() []wrongRing {
	return []wrongRing{
		{"no cells", elementary(90), nil, api.BadArg, 0},
		{"no cells that are a list", chance(4, 3, 1), []int{}, api.BadArg, 0},
		{"a cell too many", elementary(90), make([]int, api.MaxWord+1), api.TooBig, 0},
		{"a cell too many under radius 0", chance(1, 0, 1), make([]int, api.MaxWord+1), api.TooBig, 0},
		{"many cells", chance(3, 2, 1), make([]int, api.MaxCells+1), api.TooBig, 0},
		{"the length ahead of the symbols", elementary(90), slices.Repeat([]int{7}, api.MaxWord+1), api.TooBig, 0},
		{"example 1", elementary(90), []int{0, 2}, api.BadWord, 1},
		{"a symbol k", chance(3, 1, 1), []int{0, 1, 2, 3}, api.BadWord, 3},
		{"a symbol of another rule", chance(1, 2, 1), []int{1}, api.BadWord, 0},
		{"a negative symbol", chance(4, 1, 1), []int{3, -1, 9}, api.BadWord, 1},
		{"the greatest symbol", chance(2, 3, 1), []int{0, 1, math.MaxInt}, api.BadWord, 2},
		{"the least symbol", chance(2, 0, 1), []int{math.MinInt, 2}, api.BadWord, 0},
		{"the last cell", elementary(90), with(make([]int, api.MaxWord), api.MaxWord-1, 2), api.BadWord, api.MaxWord - 1},
	}
}

// P6.1

func TestStep(t *testing.T) {
	for _, r := range some() {
		for n := 1; n <= 5; n++ {
			for _, w := range rings(r.K, n) {
				got, err := ring.Step(r, w)
				wantCells(t, "Step", got, err, image(r, w)...)
			}
		}
		for _, n := range []int{6, 7, 8, 63, 64, 65, 1000, api.MaxWord - 7, api.MaxWord - 1, api.MaxWord} {
			w := mixed(r.K, n, uint64(n))
			got, err := ring.Step(r, w)
			wantCells(t, "Step of many cells", got, err, image(r, w)...)
		}
	}
	for code := range 256 {
		for n := 1; n <= 6; n++ {
			for _, w := range rings(2, n) {
				got, err := ring.Step(elementary(code), w)
				wantCells(t, "Step", got, err, image(elementary(code), w)...)
			}
		}
	}
}

func TestStepOfTheExamples(t *testing.T) {
	got, err := ring.Step(elementary(90), []int{0, 0, 1, 0, 0})
	wantCells(t, "90", got, err, 0, 1, 0, 1, 0)
	got, err = ring.Step(elementary(90), []int{1})
	wantCells(t, "one cell", got, err, 0)
	got, err = ring.Step(elementary(170), []int{0, 1})
	wantCells(t, "170", got, err, 1, 0)
}

// A short ring's cells occur several times in a window.
func TestStepOfShortRings(t *testing.T) {
	// Each of these rules picks one cell of the window, so that together the images tell the whole window.
	for place := range 7 {
		r := api.Rule{K: 4, R: 3}
		for _, w := range rings(4, 7) {
			r.Table = append(r.Table, w[place])
		}
		for n := 1; n <= 4; n++ {
			w := []int{1, 2, 3, 0}[:n]
			want := make([]int, n)
			for i := range want {
				want[i] = w[(i+place-3+3*n)%n]
			}
			got, err := ring.Step(r, w)
			wantCells(t, "a short ring", got, err, want...)
		}
	}
}

func TestStepOfWrongArguments(t *testing.T) {
	for _, x := range wrongRules() {
		for _, w := range [][]int{nil, {0}, {0, 7}, make([]int, api.MaxWord+1)} {
			got, err := ring.Step(x.r, w)
			wantRuleFault(t, x.what, err, x.at)
			if len(got) != 0 {
				t.Errorf("%s: %v beside an error", x.what, got)
			}
		}
	}
	for _, x := range wrongRings() {
		got, err := ring.Step(x.r, x.w)
		wantFault(t, x.what, err, x.inner, x.at)
		if len(got) != 0 {
			t.Errorf("%s: %v beside an error", x.what, got)
		}
	}
}

// P6.2

func TestAfterAndTrace(t *testing.T) {
	for _, r := range append(some(), elementary(30), elementary(90), elementary(110), elementary(170)) {
		for _, n := range []int{1, 2, 3, 5, 8, 31} {
			w := mixed(r.K, n, uint64(n))
			var trace []int
			for steps := range 12 {
				cells := later(r, w, steps)
				got, err := ring.After(r, w, steps)
				wantCells(t, "After", got, err, cells...)
				got, err = ring.Trace(r, w, steps)
				wantCells(t, "Trace", got, err, trace...)
				trace = append(trace, cells[0])
			}
		}
	}
}

func TestAfterOfTheExamples(t *testing.T) {
	w := []int{0, 0, 1}
	got, err := ring.After(elementary(170), w, 2)
	wantCells(t, "two steps", got, err, 1, 0, 0)
	got, err = ring.After(elementary(170), w, 0)
	wantCells(t, "no step", got, err, 0, 0, 1)
	got, err = ring.Trace(elementary(170), w, 4)
	wantCells(t, "the first cell", got, err, 0, 0, 1, 0)
	got, err = ring.Trace(elementary(170), w, 0)
	wantCells(t, "the first cell at no time", got, err)
}

// The greatest number of steps is allowed for each length, and one more is not.
func TestMostSteps(t *testing.T) {
	for _, n := range []int{1, 2, 3, 5, 64, 1000, api.MaxWord - 1, api.MaxWord} {
		w := mixed(2, n, uint64(n))
		most := api.MaxCells / n
		got, err := ring.After(elementary(170), w, most)
		wantCells(t, "the most steps", got, err, append(slices.Clone(w[most%n:]), w[:most%n]...)...)
		trace := make([]int, most)
		for i := range trace {
			trace[i] = w[i%n]
		}
		got, err = ring.Trace(elementary(170), w, most)
		wantCells(t, "the most symbols", got, err, trace...)
		got, err = ring.After(elementary(170), w, most+1)
		wantFault(t, "a step more", err, api.TooBig, 1)
		if len(got) != 0 {
			t.Error("cells beside an error")
		}
		got, err = ring.Trace(elementary(170), w, most+1)
		wantFault(t, "a symbol more", err, api.TooBig, 1)
		if len(got) != 0 {
			t.Error("symbols beside an error")
		}
	}
	// The table of the greatest rule must not be gone through at each step.
	greatest := api.Rule{K: 4, R: 3, Table: make([]int, 16384)}
	got, err := ring.After(greatest, []int{3}, api.MaxCells)
	wantCells(t, "the greatest rule", got, err, 0)
}

// wantBoth demands one Fault of After and of Trace, and nothing beside it.
func wantBoth(t *testing.T, what string, r api.Rule, w []int, steps int, demand func(err error)) {
	t.Helper()
	cells, err := ring.After(r, w, steps)
	demand(err)
	trace, err := ring.Trace(r, w, steps)
	demand(err)
	if len(cells) != 0 || len(trace) != 0 {
		t.Errorf("%s: %v, %v beside errors", what, cells, trace)
	}
}

func TestAfterOfWrongArguments(t *testing.T) {
	for _, steps := range []int{0, 1, -1, api.MaxCells + 1, math.MaxInt, math.MinInt} {
		for _, x := range wrongRules() {
			for _, w := range [][]int{nil, {0}, {9}} {
				wantBoth(t, x.what, x.r, w, steps, func(err error) { wantRuleFault(t, x.what, err, x.at) })
			}
		}
		for _, x := range wrongRings() {
			wantBoth(t, x.what, x.r, x.w, steps, func(err error) { wantFault(t, x.what, err, x.inner, x.at) })
		}
	}
	for _, n := range []int{1, 2, 3, 4, 64, api.MaxWord} {
		w := make([]int, n)
		for _, steps := range []int{-1, -2, -1 << 32, -1 << 62, math.MinInt + 1, math.MinInt} {
			wantBoth(t, "negative", elementary(170), w, steps, func(err error) { wantFault(t, "negative", err, api.BadArg, 1) })
		}
		// Many of these numbers, times the length, overflow to a small one.
		for _, steps := range []int{api.MaxCells + 1, 1 << 31, 1 << 32, 1<<32 + 1, 1 << 52, 1 << 58, 1 << 61, 1 << 62, 1<<62 + 1, 1 << 63 / 3, math.MaxInt/2 + 1, math.MaxInt} {
			wantBoth(t, "many steps", elementary(170), w, steps, func(err error) { wantFault(t, "many steps", err, api.TooBig, 1) })
		}
	}
}

// P6.3

// wantOrbit demands this orbit and no error.
func wantOrbit(t *testing.T, r api.Rule, w []int, m, p int) {
	t.Helper()
	gotM, gotP, err := ring.Orbit(r, w)
	if gotM != m || gotP != p || err != nil {
		t.Errorf("Orbit of %v, K %d, R %d: %d, %d, %v, want %d, %d", w, r.K, r.R, gotM, gotP, err, m, p)
	}
}

// wantNoOrbit demands one Fault and nothing beside it.
func wantNoOrbit(t *testing.T, what string, r api.Rule, w []int, inner error, at int) {
	t.Helper()
	m, p, err := ring.Orbit(r, w)
	wantFault(t, what, err, inner, at)
	if m != 0 || p != 0 {
		t.Errorf("%s: %d, %d beside an error", what, m, p)
	}
}

func TestOrbit(t *testing.T) {
	for code := range 256 {
		for n := 1; n <= 6; n++ {
			for _, w := range rings(2, n) {
				m, p := orbit(elementary(code), w)
				wantOrbit(t, elementary(code), w, m, p)
			}
		}
	}
	for _, r := range some() {
		for n := 1; n <= 4; n++ {
			for _, w := range rings(r.K, n) {
				m, p := orbit(r, w)
				wantOrbit(t, r, w, m, p)
			}
		}
	}
}

func TestOrbitOfTheExamples(t *testing.T) {
	wantOrbit(t, elementary(170), []int{0, 0, 1}, 0, 3)
	wantOrbit(t, elementary(90), []int{0, 0, 1, 0}, 2, 1)
	wantOrbit(t, elementary(204), []int{0, 1, 1}, 0, 1)
}

func TestOrbitOfTheLongestRing(t *testing.T) {
	w := with(make([]int, api.MaxRing), 0, 1)
	wantOrbit(t, elementary(170), w, 0, api.MaxRing)
	wantOrbit(t, elementary(0), w, 1, 1)
	// Of a single 1 on a ring of 2^n cells, rule 90 leaves nothing after 2^(n-1) steps.
	wantOrbit(t, elementary(90), w, api.MaxRing/2, 1)
}

// A ring that takes long to come into a cycle passes rings with each lesser number of steps until they recur.
func TestLongestOrbit(t *testing.T) {
	found := 0
	for code := 1; code < 256; code++ {
		for n := 12; n <= 20; n++ {
			w := with(make([]int, n), 0, 1)
			m, p := orbit(elementary(code), w)
			beyond := m + p - api.MaxOrbit
			if beyond < 1 || m < beyond {
				continue
			}
			found++
			r := elementary(code)
			wantNoOrbit(t, "far beyond the limit", r, w, api.TooBig, 1)
			wantNoOrbit(t, "one beyond the limit", r, later(r, w, beyond-1), api.TooBig, 1)
			wantOrbit(t, r, later(r, w, beyond), m-beyond, p)
		}
	}
	if found == 0 {
		t.Error("no ring takes so long")
	}
}

func TestOrbitOfWrongArguments(t *testing.T) {
	for _, x := range wrongRules() {
		for _, w := range [][]int{nil, {0}, {9}, make([]int, api.MaxRing+1), make([]int, api.MaxWord+1)} {
			m, p, err := ring.Orbit(x.r, w)
			wantRuleFault(t, x.what, err, x.at)
			if m != 0 || p != 0 {
				t.Errorf("%s: %d, %d beside an error", x.what, m, p)
			}
		}
	}
	for _, x := range wrongRings() {
		wantNoOrbit(t, x.what, x.r, x.w, x.inner, x.at)
	}
	for _, n := range []int{api.MaxRing + 1, 1000, api.MaxWord} {
		wantNoOrbit(t, "too many cells", elementary(204), make([]int, n), api.TooBig, 0)
		wantNoOrbit(t, "symbols ahead of the limit", elementary(204), with(make([]int, n), n-1, 2), api.BadWord, n-1)
	}
}

// P6.4

// neck is the first of all rotations of w, which is not empty.
func neck(w []int) []int {
	least := w
	for i := range w {
		turned := slices.Concat(w[i:], w[:i])
		if slices.Compare(turned, least) < 0 {
			least = turned
		}
	}
	return least
}

func TestNeck(t *testing.T) {
	for k := 1; k <= 4; k++ {
		for n := 1; n <= 6; n++ {
			for _, w := range rings(k, n) {
				got, err := ring.Neck(w)
				wantCells(t, "Neck", got, err, neck(w)...)
			}
		}
	}
	for n := 7; n <= 300; n += 13 {
		for _, w := range [][]int{mixed(2, n, uint64(n)), mixed(9, n, uint64(n)), with(make([]int, n), n/2, -1), with(make([]int, n), n/3, 1)} {
			got, err := ring.Neck(w)
			wantCells(t, "Neck", got, err, neck(w)...)
		}
	}
	got, err := ring.Neck([]int{1, 0, 0, 1})
	wantCells(t, "example 4", got, err, 0, 0, 1, 1)
}

func TestNeckOfAnyNumbers(t *testing.T) {
	for _, w := range [][]int{
		{7}, {-7}, {math.MinInt}, {5, math.MaxInt, math.MinInt}, {math.MaxInt, -1, math.MaxInt, -2}, {9, -9, 9, -9, 9}, {1 << 32, 0, 1, -1 << 32},
	} {
		got, err := ring.Neck(w)
		wantCells(t, "any numbers", got, err, neck(w)...)
	}
	// No length is too great.
	long := with(make([]int, 1<<17), 12345, 1)
	got, err := ring.Neck(long)
	wantCells(t, "many numbers", got, err, with(make([]int, 1<<17), 1<<17-1, 1)...)
}

func TestNeckOfNothing(t *testing.T) {
	for _, w := range [][]int{nil, {}, make([]int, 0, 9)} {
		got, err := ring.Neck(w)
		wantFault(t, "no numbers", err, api.BadArg, 0)
		if len(got) != 0 {
			t.Errorf("%v beside an error", got)
		}
	}
}

// P0.1: one step of the power is t steps of the rule, on every ring.

func TestPowerOnRings(t *testing.T) {
	for _, r := range append(some(), elementary(30), elementary(110), elementary(184)) {
		for steps := 0; steps <= 5 && r.R*steps <= api.MaxR; steps++ {
			power, err := forms.Power(r, steps)
			if err != nil {
				t.Fatal(err)
			}
			for n := 1; n <= 12; n++ {
				w := mixed(r.K, n, uint64(n+steps))
				got, err := ring.Step(power, w)
				want, second := ring.After(r, w, steps)
				if second != nil {
					t.Error(second)
				}
				wantCells(t, "the power", got, err, want...)
			}
		}
	}
}

// P0.17: what is no rule has the same innermost error and At here as in other layers.

func TestInnermostErrors(t *testing.T) {
	for _, x := range wrongRules() {
		_, want := forms.Mirror(x.r)
		_, _, got := ring.Orbit(x.r, []int{0})
		wantOp, wantAt, _ := fault.Inner(want)
		op, at, ok := fault.Inner(got)
		if op != wantOp || at != wantAt || !ok || fault.Code(got) != fault.Code(want) {
			t.Errorf("%s: %v, want the end of %v", x.what, got, want)
		}
	}
}

// P6.5

// guarded is w with spare capacity, which holds -77.
func guarded(w []int) []int {
	room := slices.Repeat([]int{-77}, len(w)+8)
	copy(room, w)
	return room[:len(w)]
}

// intact tells whether w is still want, and its spare capacity is as guarded made it.
func intact(w, want []int) bool {
	spare := w[len(w):cap(w)]
	return slices.Equal(w, want) && !slices.ContainsFunc(spare, func(x int) bool { return x != -77 })
}

// spoil overwrites a result with all of its memory.
func spoil(w []int) {
	w = w[:cap(w)]
	for i := range w {
		w[i] = 99
	}
}

// calls are the results of all calls for r and w.
func calls(r api.Rule, w []int) [][]int {
	var results [][]int
	keep := func(w []int, _ error) { results = append(results, w) }
	keep(ring.Step(r, w))
	for steps := range 4 {
		keep(ring.After(r, w, steps))
		keep(ring.Trace(r, w, steps))
	}
	keep(ring.Neck(w))
	m, p, _ := ring.Orbit(r, w)
	return append(results, []int{m, p})
}

func TestArgumentsStayAndResultsAreNew(t *testing.T) {
	identity := api.Rule{K: 2, R: 0, Table: []int{0, 1}}
	for _, r := range append(some(), elementary(110), elementary(204), identity, api.Rule{K: 9}) {
		for _, w := range [][]int{nil, {0}, {0, 0, 0}, {0, 1}, {1, 0, 0, 1, 0}, {3, 2, 1, 0, 2, 2}, {0, 7}} {
			arg, cells := r, guarded(w)
			arg.Table = guarded(r.Table)
			results := calls(arg, cells)
			var wants [][]int
			for _, x := range results {
				wants = append(wants, slices.Clone(x))
			}
			for i, x := range results {
				spoil(x)
				for j := i + 1; j < len(results); j++ {
					if !slices.Equal(results[j], wants[j]) {
						t.Errorf("K %d, R %d, %v: results %d and %d share memory", r.K, r.R, w, i, j)
					}
				}
			}
			if !intact(arg.Table, r.Table) || !intact(cells, w) {
				t.Errorf("K %d, R %d, %v: an argument has changed", r.K, r.R, w)
			}
			for i, x := range calls(arg, cells) {
				if !slices.Equal(x, wants[i]) {
					t.Errorf("K %d, R %d, %v: result %d is %v, and then %v", r.K, r.R, w, i, wants[i], x)
				}
			}
		}
	}
}
