package row_test

import (
	"math"
	"slices"
	"testing"

	"eden/api"
	"eden/fault"
	"eden/forms"
	"eden/row"
)

// wantFault demands one Fault of row with the number at, that wraps inner.
func wantFault(t *testing.T, what string, err, inner error, at int) {
	t.Helper()
	f, ok := err.(*api.Fault)
	if !ok || f.Op != "row" || f.At != at || f.Err != inner {
		t.Errorf("%s: %v, want row %d: %v", what, err, at, inner)
	}
}

// wantRuleFault demands a Fault of row with the number 0, that wraps one of rule with this number, that wraps BadRule.
func wantRuleFault(t *testing.T, what string, err error, at int) {
	t.Helper()
	f, ok := err.(*api.Fault)
	if !ok || f.Op != "row" || f.At != 0 {
		t.Errorf("%s: %v, want row 0: rule %d: bad rule", what, err, at)
		return
	}
	g, ok := f.Err.(*api.Fault)
	if !ok || g.Op != "rule" || g.At != at || g.Err != api.BadRule {
		t.Errorf("%s: %v, want row 0: rule %d: bad rule", what, err, at)
	}
}

// wantNone demands the row that stands beside an error.
func wantNone(t *testing.T, what string, r api.Row) {
	t.Helper()
	if r.At != 0 || len(r.Left) != 0 || len(r.Core) != 0 || len(r.Right) != 0 {
		t.Errorf("%s: a row of At %d, %d, %d and %d symbols beside an error", what, r.At, len(r.Left), len(r.Core), len(r.Right))
	}
}

// sizes are the numbers of windows: a line for each number of symbols, a column for each radius.
var sizes = [5][4]int{{}, {1, 1, 1, 1}, {2, 8, 32, 128}, {3, 27, 243, 2187}, {4, 64, 1024, 16384}}

// mixed is a word with n symbols that look like chance, the same for the same seed.
func mixed(k, n int, seed uint64) []int {
	w := make([]int, n)
	for i := range w {
		seed = seed*6364136223846793005 + 1442695040888963407
		w[i] = int(seed >> 33 % uint64(k))
	}
	return w
}

// chance is a rule whose table looks like chance.
func chance(k, radius int, seed uint64) api.Rule {
	return api.Rule{K: k, R: radius, Table: mixed(k, sizes[k][radius], seed)}
}

// some are rules of all sizes.
func some() []api.Rule {
	var rules []api.Rule
	for k := 1; k <= 4; k++ {
		for radius := range 4 {
			rules = append(rules, chance(k, radius, uint64(10*k+radius)))
		}
	}
	return rules
}

// elementary is the rule of two symbols and radius 1 whose entries are the bits of code.
func elementary(code int) api.Rule {
	table := make([]int, 8)
	for i := range table {
		table[i] = code >> i & 1
	}
	return api.Rule{K: 2, R: 1, Table: table}
}

// example is the row of the chapter's examples.
func example() api.Row {
	return api.Row{At: 0, Left: []int{0, 1}, Core: []int{1, 1}, Right: []int{0, 0, 1}}
}

// mixedRow is a row whose lists have these lengths, and symbols that look like chance.
func mixedRow(k, at, left, core, right int) api.Row {
	seed := uint64(1000*left + 100*core + 10*right + k)
	return api.Row{At: at, Left: mixed(k, left, seed), Core: mixed(k, core, seed+1), Right: mixed(k, right, seed+2)}
}

// mixedRows are rows over k symbols of many shapes.
func mixedRows(k int) []api.Row {
	var rows []api.Row
	for _, at := range []int{-9, -1, 0, 1, 6} {
		for _, core := range []int{0, 1, 2, 5, 12} {
			for _, blocks := range [][2]int{{1, 1}, {1, 3}, {2, 1}, {4, 5}, {9, 2}, {3, 14}} {
				rows = append(rows, mixedRow(k, at, blocks[0], core, blocks[1]))
			}
		}
	}
	return rows
}

// stretch is the symbols of the row r from position -reach to position reach, laid out block by block.
func stretch(r api.Row, reach int) []int {
	left := slices.Repeat(r.Left, (reach+api.MaxAt)/len(r.Left)+1)
	right := slices.Repeat(r.Right, (reach+api.MaxAt)/len(r.Right)+1)
	first := -reach - (r.At - len(left))
	return slices.Concat(left, r.Core, right)[first:][:2*reach+1]
}

// equal tells whether two rows have the same lists at the same position.
func equal(a, b api.Row) bool {
	return a.At == b.At && slices.Equal(a.Left, b.Left) && slices.Equal(a.Core, b.Core) && slices.Equal(a.Right, b.Right)
}

// with is the word w with another number at index i.
func with(w []int, i, x int) []int {
	w = slices.Clone(w)
	w[i] = x
	return w
}

// wrongRow is a row that is none over k symbols.
type wrongRow struct {
	what  string
	k     int
	r     api.Row
	inner error
	at    int
}

// longest are rows whose lists are as long as they may be.
func longest(k int) []api.Row {
	return []api.Row{
		mixedRow(k, 0, api.MaxBlock, 0, 1), mixedRow(k, 0, 1, api.MaxCore, 1), mixedRow(k, 0, 1, 0, api.MaxBlock),
		mixedRow(k, -api.MaxAt, api.MaxBlock, api.MaxCore, api.MaxBlock), mixedRow(k, api.MaxAt, api.MaxBlock, api.MaxCore, api.MaxBlock),
	}
}

func wrongRows() []wrongRow {
	one, seven := []int{0}, []int{7}
	block, core := make([]int, api.MaxBlock), make([]int, api.MaxCore)
	moreBlock, moreCore := make([]int, api.MaxBlock+1), make([]int, api.MaxCore+1)
	return slices.Concat(wrongShapes(), []wrongRow{
		{"a left block too long", 2, api.Row{Left: moreBlock, Right: one}, api.TooBig, 2},
		{"a right block too long", 2, api.Row{Left: one, Right: moreBlock}, api.TooBig, 3},
		{"a core too long", 2, api.Row{Left: one, Core: moreCore, Right: one}, api.TooBig, 4},
		{"a core much too long", 4, api.Row{Left: one, Core: make([]int, 1<<20), Right: one}, api.TooBig, 4},
		{"an empty right block ahead of a left one too long", 2, api.Row{Left: moreBlock}, api.BadArg, 3},
		{"an empty left block ahead of a core too long", 2, api.Row{Core: moreCore, Right: one}, api.BadArg, 2},
		{"both blocks and the core too long", 2, api.Row{Left: moreBlock, Core: moreCore, Right: moreBlock}, api.TooBig, 2},
		{"the right block and the core too long", 2, api.Row{Left: one, Core: moreCore, Right: moreBlock}, api.TooBig, 3},
		{"the length ahead of the symbols", 2, api.Row{Left: seven, Core: moreCore, Right: seven}, api.TooBig, 4},
		{"the first symbol", 2, api.Row{Left: []int{2, 0}, Core: one, Right: one}, api.BadWord, 0},
		{"example 2", 2, api.Row{Left: []int{0, 1}, Core: []int{1, 2}, Right: []int{0, 0, 1}}, api.BadWord, 3},
		{"a symbol of the left block", 2, api.Row{Left: []int{0, 2, 1}, Core: seven, Right: seven}, api.BadWord, 1},
		{"a symbol of the core", 3, api.Row{Left: one, Core: []int{0, 1, 2, 3}, Right: seven}, api.BadWord, 4},
		{"a symbol of the right block", 4, api.Row{Left: []int{3, 3}, Core: []int{3}, Right: []int{3, 4}}, api.BadWord, 4},
		{"a right block after no core", 1, api.Row{Left: []int{0, 0}, Right: []int{0, 1}}, api.BadWord, 3},
		{"a negative symbol", 2, api.Row{Left: one, Core: []int{-1}, Right: one}, api.BadWord, 1},
		{"the greatest symbol", 2, api.Row{Left: one, Core: []int{0, math.MaxInt}, Right: one}, api.BadWord, 2},
		{"the least symbol", 2, api.Row{Left: one, Right: []int{math.MinInt}}, api.BadWord, 1},
		{"the symbol 2^32", 2, api.Row{Left: []int{1 << 32}, Right: one}, api.BadWord, 0},
		{"the last symbol of the longest row", 2, api.Row{Left: block, Core: core, Right: with(block, api.MaxBlock-1, 2)}, api.BadWord, 2*api.MaxBlock + api.MaxCore - 1},
	})
}

// wrongShapes are rows with a wrong number of symbols or a wrong At, or with an empty block.
func wrongShapes() []wrongRow {
	one, seven := []int{0}, []int{7}
	return []wrongRow{
		{"no symbols", 0, api.Row{Left: one, Right: one}, api.BadArg, 0},
		{"five symbols", 5, api.Row{Left: one, Right: one}, api.BadArg, 0},
		{"a negative number of symbols", -1, api.Row{Left: one, Right: one}, api.BadArg, 0},
		{"the greatest number of symbols", math.MaxInt, api.Row{Left: one, Right: one}, api.BadArg, 0},
		{"the least number of symbols", math.MinInt, api.Row{Left: one, Right: one}, api.BadArg, 0},
		{"the number of symbols ahead of all else", 0, api.Row{At: math.MaxInt, Core: seven}, api.BadArg, 0},
		{"At 4097", 2, api.Row{At: api.MaxAt + 1, Left: one, Right: one}, api.BadArg, 1},
		{"At -4097", 2, api.Row{At: -api.MaxAt - 1, Left: one, Right: one}, api.BadArg, 1},
		{"the greatest At", 2, api.Row{At: math.MaxInt, Left: one, Right: one}, api.BadArg, 1},
		{"the least At", 2, api.Row{At: math.MinInt, Left: one, Right: one}, api.BadArg, 1},
		{"At 2^32", 2, api.Row{At: 1 << 32, Left: one, Right: one}, api.BadArg, 1},
		{"At ahead of the blocks", 2, api.Row{At: -5000, Core: seven}, api.BadArg, 1},
		{"no row", 2, api.Row{}, api.BadArg, 2},
		{"no left block", 2, api.Row{Core: seven, Right: one}, api.BadArg, 2},
		{"an empty left block", 2, api.Row{Left: []int{}, Right: seven}, api.BadArg, 2},
		{"no right block", 2, api.Row{Left: seven, Core: seven}, api.BadArg, 3},
		{"an empty right block", 2, api.Row{Left: one, Right: []int{}}, api.BadArg, 3},
	}
}

// wrongRule is a rule that rule.Check rejects.
type wrongRule struct {
	what string
	r    api.Rule
	at   int
}

func wrongRules() []wrongRule {
	table := elementary(110).Table
	return []wrongRule{
		{"no rule", api.Rule{}, 0},
		{"nine symbols", api.Rule{K: 9}, 0},
		{"the least number of symbols", api.Rule{K: math.MinInt, R: 1, Table: table}, 0},
		{"the greatest number of symbols", api.Rule{K: math.MaxInt, R: math.MaxInt}, 0},
		{"a radius of -1", api.Rule{K: 2, R: -1, Table: []int{0}}, 1},
		{"a radius of 4", api.Rule{K: 1, R: 4, Table: []int{0}}, 1},
		{"the greatest radius", api.Rule{K: 2, R: math.MaxInt, Table: table}, 1},
		{"the least radius", api.Rule{K: 2, R: math.MinInt, Table: table}, 1},
		{"seven entries", api.Rule{K: 2, R: 1, Table: table[:7]}, 2},
		{"no entries", api.Rule{K: 1, R: 0}, 2},
		{"entry 0", api.Rule{K: 2, R: 1, Table: with(table, 0, 2)}, 3},
		{"entry 7", api.Rule{K: 2, R: 1, Table: with(table, 7, -1)}, 10},
		{"the last entry of the greatest rule", api.Rule{K: 4, R: 3, Table: with(make([]int, 16384), 16383, 4)}, 3 + 16383},
	}
}

// P7.1

func TestCheck(t *testing.T) {
	for k := 1; k <= 4; k++ {
		for _, r := range slices.Concat(mixedRows(k), longest(k)) {
			if err := row.Check(k, r); err != nil {
				t.Errorf("k %d, At %d, %d, %d and %d symbols: %v", k, r.At, len(r.Left), len(r.Core), len(r.Right), err)
			}
		}
		r := api.Row{Left: []int{k - 1}, Core: []int{k - 1}, Right: []int{k - 1}}
		if err := row.Check(k, r); err != nil {
			t.Errorf("the greatest of %d symbols: %v", k, err)
		}
	}
	for _, x := range wrongRows() {
		wantFault(t, x.what, row.Check(x.k, x.r), x.inner, x.at)
	}
}

// wantCell demands the symbol at position i.
func wantCell(t *testing.T, k int, r api.Row, i, want int) {
	t.Helper()
	got, err := row.Cell(k, r, i)
	if got != want || err != nil {
		t.Errorf("Cell at %d: %d, %v, want %d", i, got, err, want)
	}
}

func TestCell(t *testing.T) {
	for k := 1; k <= 4; k++ {
		for _, r := range mixedRows(k) {
			for i, want := range stretch(r, 40) {
				wantCell(t, k, r, i-40, want)
			}
		}
	}
	for i, want := range map[int]int{0: 1, 2: 0, 4: 1, 5: 0, -1: 1, -2: 0} {
		wantCell(t, 2, example(), i, want)
	}
}

func TestCellFarOut(t *testing.T) {
	for _, r := range append(longest(3), mixedRow(3, -api.MaxAt, 7, 0, 11), mixedRow(3, api.MaxAt, 13, 3, 5), mixedRow(3, 0, 1, 0, 1)) {
		all := stretch(r, api.MaxPlace)
		for i := 0; i < 2*api.MaxPlace; i += 29989 {
			wantCell(t, 3, r, i-api.MaxPlace, all[i])
		}
		for i := range 5 {
			wantCell(t, 3, r, i-api.MaxPlace, all[i])
			wantCell(t, 3, r, api.MaxPlace-i, all[2*api.MaxPlace-i])
		}
	}
}

// beyond are numbers that are no positions.
func beyond() []int {
	return []int{api.MaxPlace + 1, -api.MaxPlace - 1, 1 << 32, -1 << 32, 1 << 62, math.MaxInt, math.MinInt + 1, math.MinInt}
}

// wantNoCell demands one Fault and nothing beside it.
func wantNoCell(t *testing.T, what string, k int, r api.Row, i int, inner error, at int) {
	t.Helper()
	got, err := row.Cell(k, r, i)
	wantFault(t, what, err, inner, at)
	if got != 0 {
		t.Errorf("%s: %d beside an error", what, got)
	}
}

func TestCellOfWrongArguments(t *testing.T) {
	ones := api.Row{Left: []int{1}, Core: []int{1}, Right: []int{1}}
	for _, i := range beyond() {
		wantNoCell(t, "no position", 2, ones, i, api.BadArg, 5)
		wantNoCell(t, "no position", 2, example(), i, api.BadArg, 5)
		wantNoCell(t, "no position", 4, longest(4)[3], i, api.BadArg, 5)
	}
	for _, x := range wrongRows() {
		for _, i := range []int{0, api.MaxPlace + 1, math.MinInt} {
			wantNoCell(t, x.what, x.k, x.r, i, x.inner, x.at)
		}
	}
}

// P7.2

// wantCut demands the n symbols from position from on.
func wantCut(t *testing.T, k int, r api.Row, from, n int, want []int) {
	t.Helper()
	got, err := row.Cut(k, r, from, n)
	if err != nil || !slices.Equal(got, want) {
		t.Errorf("Cut of %d from %d on: %v, %v, want %v", n, from, got, err, want)
	}
}

func TestCut(t *testing.T) {
	for k := 1; k <= 4; k++ {
		for _, r := range mixedRows(k) {
			all := stretch(r, 40)
			for from := -40; from <= 0; from += 3 {
				for n := 0; n <= 40; n += 5 {
					wantCut(t, k, r, from, n, all[from+40:][:n])
				}
			}
		}
	}
	wantCut(t, 2, example(), -2, 6, []int{0, 1, 1, 1, 0, 0})
}

func TestLongestCut(t *testing.T) {
	for _, r := range append(longest(3), mixedRow(3, -api.MaxAt, 7, 0, 11), example()) {
		// The last of these symbols are beyond MaxPlace.
		reach := api.MaxPlace + api.MaxWord
		all := stretch(r, reach)
		for _, from := range []int{-api.MaxPlace, -10000, -2000, 0, 10000, 20000, api.MaxPlace - 100, api.MaxPlace} {
			wantCut(t, 3, r, from, api.MaxWord, all[from+reach:][:api.MaxWord])
			wantCut(t, 3, r, from, 1, all[from+reach:][:1])
			wantCut(t, 3, r, from, 0, nil)
		}
	}
}

// wantNoCut demands one Fault and nothing beside it.
func wantNoCut(t *testing.T, what string, k int, r api.Row, from, n int, inner error, at int) {
	t.Helper()
	got, err := row.Cut(k, r, from, n)
	wantFault(t, what, err, inner, at)
	if len(got) != 0 {
		t.Errorf("%s: %d symbols beside an error", what, len(got))
	}
}

func TestCutOfWrongArguments(t *testing.T) {
	for _, r := range []api.Row{example(), mixedRow(2, 5, 3, 0, 4)} {
		for _, n := range []int{0, 1, -1, api.MaxWord + 1, math.MaxInt, math.MinInt} {
			for _, from := range beyond() {
				wantNoCut(t, "no position", 2, r, from, n, api.BadArg, 5)
			}
		}
		for _, from := range []int{0, -api.MaxPlace, api.MaxPlace} {
			for _, n := range []int{-1, -2, -1 << 32, math.MinInt + 1, math.MinInt} {
				wantNoCut(t, "a negative number of symbols", 2, r, from, n, api.BadArg, 6)
			}
			for _, n := range []int{api.MaxWord + 1, 1 << 32, 1<<32 + 1, 1 << 62, math.MaxInt} {
				wantNoCut(t, "too many symbols", 2, r, from, n, api.TooBig, 6)
			}
		}
	}
	for _, x := range wrongRows() {
		for _, from := range []int{0, math.MaxInt} {
			for _, n := range []int{0, -1, math.MaxInt} {
				wantNoCut(t, x.what, x.k, x.r, from, n, x.inner, x.at)
			}
		}
	}
}

// P7.3

// wantSame demands what Same tells of two rows, in both orders.
func wantSame(t *testing.T, what string, k int, a, b api.Row, want bool) {
	t.Helper()
	for _, x := range [][2]api.Row{{a, b}, {b, a}} {
		got, err := row.Same(k, x[0], x[1])
		if got != want || err != nil {
			t.Errorf("%s: %v, %v, want %v", what, got, err, want)
		}
	}
}

// words are the words over k symbols of n symbols.
func words(k, n int) [][]int {
	if n == 0 {
		return [][]int{{}}
	}
	var all [][]int
	for first := range k {
		for _, rest := range words(k, n-1) {
			all = append(all, append([]int{first}, rest...))
		}
	}
	return all
}

// shortRows are the rows over two symbols with a core of at most one symbol and blocks of at most two, at -1, 0 and 1.
func shortRows() []api.Row {
	blocks := slices.Concat(words(2, 1), words(2, 2))
	var rows []api.Row
	for at := -1; at <= 1; at++ {
		for _, left := range blocks {
			for _, core := range slices.Concat(words(2, 0), words(2, 1)) {
				for _, right := range blocks {
					rows = append(rows, api.Row{At: at, Left: left, Core: core, Right: right})
				}
			}
		}
	}
	return rows
}

func TestSameOfShortRows(t *testing.T) {
	rows := shortRows()
	var stretches [][]int
	for _, r := range rows {
		stretches = append(stretches, stretch(r, 12))
	}
	for i, a := range rows {
		for j, b := range rows {
			got, err := row.Same(2, a, b)
			if want := slices.Equal(stretches[i], stretches[j]); got != want || err != nil {
				t.Fatalf("Same of %v and %v: %v, %v, want %v", a, b, got, err, want)
			}
		}
	}
}

// told is the row r with left more symbols ahead of its core, right more after it, and its blocks several times in a row.
func told(r api.Row, left, right, times int) api.Row {
	m, n := left%len(r.Left), right%len(r.Right)
	leftAll := slices.Repeat(r.Left, left/len(r.Left)+1)
	rightAll := slices.Repeat(r.Right, right/len(r.Right)+1)
	return api.Row{
		At:    r.At - left,
		Left:  slices.Repeat(slices.Concat(r.Left[len(r.Left)-m:], r.Left[:len(r.Left)-m]), times),
		Core:  slices.Concat(leftAll[len(leftAll)-left:], r.Core, rightAll[:right]),
		Right: slices.Repeat(slices.Concat(r.Right[n:], r.Right[:n]), times+1),
	}
}

func TestSameOfOtherRepresentations(t *testing.T) {
	for k := 2; k <= 4; k++ {
		for _, r := range mixedRows(k) {
			for _, x := range [][3]int{{0, 0, 1}, {1, 0, 2}, {0, 1, 3}, {3, 5, 1}, {8, 2, 7}, {50, 60, 2}} {
				other := told(r, x[0], x[1], x[2])
				wantSame(t, "another representation", k, r, other, true)
				wantSame(t, "two representations", k, told(r, x[1], x[0], 1), other, true)
				for i := range other.Core {
					changed := other
					changed.Core = with(other.Core, i, (other.Core[i]+1)%k)
					wantSame(t, "a symbol of the core", k, r, changed, false)
				}
				last := len(other.Right) - 1
				changed := other
				changed.Left = with(other.Left, 0, (other.Left[0]+1)%k)
				wantSame(t, "the first symbol of the left block", k, r, changed, false)
				changed = other
				changed.Right = with(other.Right, last, (other.Right[last]+1)%k)
				wantSame(t, "the last symbol of the right block", k, r, changed, false)
			}
		}
	}
}

func TestSameOfTheExamples(t *testing.T) {
	wantSame(t, "example 3", 2, example(), api.Row{At: -2, Left: []int{0, 1}, Core: []int{0, 1, 1, 1, 0}, Right: []int{0, 1, 0}}, true)
	wantSame(t, "example 3", 2, example(), api.Row{At: 1, Left: []int{0, 1}, Core: []int{1}, Right: []int{0, 0, 1}}, false)
}

// Blocks of m and m + 1 symbols, all 0 but one, agree for 2m - 1 symbols and no more.
func TestSameOfLongBlocks(t *testing.T) {
	for _, m := range []int{1, 2, 3, 10, 1000, api.MaxBlock - 1} {
		zero := []int{0}
		lesser, greater := with(make([]int, m), m-1, 1), with(make([]int, m+1), m-1, 1)
		wantSame(t, "right blocks", 2, api.Row{Left: zero, Right: lesser}, api.Row{Left: zero, Right: greater}, false)
		wantSame(t, "right blocks", 2, api.Row{Left: zero, Right: lesser}, api.Row{Left: zero, Core: lesser, Right: lesser}, true)
		slices.Reverse(lesser)
		slices.Reverse(greater)
		wantSame(t, "left blocks", 2, api.Row{Left: lesser, Right: zero}, api.Row{Left: greater, Right: zero}, false)
		wantSame(t, "left blocks", 2, api.Row{At: api.MaxAt, Left: greater, Right: zero}, api.Row{At: api.MaxAt - m - 1, Left: greater, Core: greater, Right: zero}, true)
	}
}

// The farthest rows: the cores do not meet, or one of them lies within the blocks of the other one.
func TestSameOfFarCores(t *testing.T) {
	ab := []int{0, 1}
	wantSame(t, "no cores", 2, api.Row{At: -api.MaxAt, Left: ab, Right: ab}, api.Row{At: api.MaxAt, Left: ab, Right: ab}, true)
	wantSame(t, "no cores, one cell apart", 2, api.Row{At: 1 - api.MaxAt, Left: ab, Right: ab}, api.Row{At: api.MaxAt, Left: ab, Right: ab}, false)
	wantSame(t, "other blocks between", 2, api.Row{At: -api.MaxAt, Left: []int{0}, Right: []int{1}}, api.Row{At: api.MaxAt, Left: []int{0}, Right: []int{1}}, false)
	all := slices.Repeat(ab, api.MaxCore/2)
	wantSame(t, "a long core", 2, api.Row{At: -api.MaxAt, Left: ab, Core: all, Right: ab}, api.Row{At: api.MaxAt, Left: ab, Right: slices.Repeat(ab, api.MaxBlock/2)}, true)
	for _, i := range []int{0, 1, api.MaxCore / 2, api.MaxCore - 1} {
		core := with(all, i, 1-all[i])
		wantSame(t, "a long core", 2, api.Row{At: api.MaxAt, Left: ab, Core: core, Right: ab}, api.Row{At: -api.MaxAt, Left: ab, Right: ab}, false)
	}
	for _, r := range longest(4) {
		wantSame(t, "the longest row", 4, r, r, true)
	}
}

func TestSameOfWrongRows(t *testing.T) {
	demand := func(what string, k int, a, b api.Row, inner error, at int) {
		t.Helper()
		got, err := row.Same(k, a, b)
		wantFault(t, what, err, inner, at)
		if got {
			t.Errorf("%s: true beside an error", what)
		}
	}
	zeros := api.Row{Left: []int{0}, Right: []int{0}}
	for _, x := range wrongRows() {
		demand(x.what, x.k, x.r, zeros, x.inner, x.at)
		demand(x.what, x.k, zeros, x.r, x.inner, x.at)
		demand(x.what, x.k, x.r, x.r, x.inner, x.at)
		for _, y := range wrongRows() {
			if x.k == 2 && y.k == 2 {
				demand(x.what+", "+y.what, 2, x.r, y.r, x.inner, x.at)
			}
		}
	}
}

// P7.4

// around is the image of a word, window by window.
func around(r api.Rule, w []int) []int {
	var v []int
	for i := 0; i+2*r.R < len(w); i++ {
		number := 0
		for _, symbol := range w[i : i+2*r.R+1] {
			number = number*r.K + symbol
		}
		v = append(v, r.Table[number])
	}
	return v
}

// wantImage demands the image of the row x, in the form of P7.4.
func wantImage(t *testing.T, r api.Rule, x api.Row) {
	t.Helper()
	reach := api.MaxAt + api.MaxBlock + api.MaxCore + 2*api.MaxR
	if max(-x.At, x.At)+len(x.Left)+len(x.Core)+len(x.Right) < 80 {
		reach = 100
	}
	all := around(r, stretch(x, reach+r.R))
	core := x.At - r.R + reach
	left, right := core-len(x.Left), core+2*r.R+len(x.Core)
	want := api.Row{At: x.At - r.R, Left: all[left:core], Core: all[core:right], Right: all[right : right+len(x.Right)]}
	got, err := row.Step(r, x)
	if err != nil || !equal(got, want) {
		t.Errorf("K %d, R %d, At %d, %d, %d and %d symbols: the image is %v, %v, want %v", r.K, r.R, x.At, len(x.Left), len(x.Core), len(x.Right), got, err, want)
		return
	}
	if !slices.Equal(stretch(got, reach), all) {
		t.Errorf("K %d, R %d, At %d, %d, %d and %d symbols: a row that is not the image", r.K, r.R, x.At, len(x.Left), len(x.Core), len(x.Right))
	}
}

func TestStep(t *testing.T) {
	for _, r := range some() {
		rows := mixedRows(r.K)
		if len(r.Table) > 2000 {
			rows = rows[:len(rows)/3]
		}
		for _, x := range rows {
			wantImage(t, r, x)
		}
	}
	rows := shortRows()
	for code := range 256 {
		for i := code % 7; i < len(rows); i += 7 {
			wantImage(t, elementary(code), rows[i])
		}
	}
}

func TestStepOfTheExample(t *testing.T) {
	got, err := row.Step(elementary(170), example())
	if err != nil || !equal(got, api.Row{At: -1, Left: []int{0, 1}, Core: []int{1, 1, 0, 0}, Right: []int{1, 0, 0}}) {
		t.Errorf("example 4: %v, %v", got, err)
	}
}

// The longest lists and the farthest positions that are allowed, and one more.
func TestStepAtTheLimits(t *testing.T) {
	for _, r := range some() {
		most := api.MaxCore - 2*r.R
		wantImage(t, r, mixedRow(r.K, r.R-api.MaxAt, api.MaxBlock, most, api.MaxBlock))
		wantImage(t, r, mixedRow(r.K, api.MaxAt, api.MaxBlock, most, api.MaxBlock))
		wantImage(t, r, mixedRow(r.K, r.R-api.MaxAt, 1, 0, 2))
		if r.R == 0 {
			wantImage(t, r, mixedRow(r.K, -api.MaxAt, 1, api.MaxCore, 1))
			continue
		}
		for _, more := range []int{1, r.R} {
			wantNoStep(t, "a core too far to the left", r, mixedRow(r.K, r.R-api.MaxAt-more, 2, 3, 2), api.BadArg, 1)
			wantNoStep(t, "a core too long", r, mixedRow(r.K, r.R-api.MaxAt, 2, most+more, 2), api.TooBig, 4)
			wantNoStep(t, "a core too far to the left and too long", r, mixedRow(r.K, r.R-api.MaxAt-more, 2, most+more, 2), api.BadArg, 1)
		}
		wantNoStep(t, "the longest core", r, mixedRow(r.K, 0, 2, api.MaxCore, 2), api.TooBig, 4)
	}
}

// wantNoStep demands one Fault and nothing beside it.
func wantNoStep(t *testing.T, what string, r api.Rule, x api.Row, inner error, at int) {
	t.Helper()
	got, err := row.Step(r, x)
	wantFault(t, what, err, inner, at)
	wantNone(t, what, got)
}

func TestStepOfWrongArguments(t *testing.T) {
	for _, x := range wrongRules() {
		rows := []api.Row{{}, example(), {At: math.MinInt}, {At: -api.MaxAt, Left: []int{0}, Core: make([]int, api.MaxCore), Right: []int{0}}}
		for _, y := range rows {
			got, err := row.Step(x.r, y)
			wantRuleFault(t, x.what, err, x.at)
			wantNone(t, x.what, got)
		}
	}
	for _, x := range wrongRows() {
		if x.k < 1 || x.k > api.MaxK {
			continue // No rule has so many symbols.
		}
		for radius := range 4 {
			wantNoStep(t, x.what, chance(x.k, radius, 5), x.r, x.inner, x.at)
		}
	}
	// The rule's number of symbols is the row's.
	wantNoStep(t, "a symbol of another rule", chance(3, 1, 1), api.Row{At: -api.MaxAt, Left: []int{2}, Core: []int{1}, Right: []int{3}}, api.BadWord, 2)
}

// P0.1: one step of the power is t steps of the rule, on every row.

func TestPowerOnRows(t *testing.T) {
	for _, r := range append(some(), elementary(30), elementary(110), elementary(184)) {
		rows := mixedRows(r.K)
		if len(r.Table) > 2000 {
			rows = rows[:len(rows)/5]
		}
		for steps := 0; steps <= 5 && r.R*steps <= api.MaxR; steps++ {
			power, err := forms.Power(r, steps)
			if err != nil {
				t.Fatal(err)
			}
			for _, x := range rows {
				want := x
				for range steps {
					if want, err = row.Step(r, want); err != nil {
						t.Fatal(err)
					}
				}
				got, err := row.Step(power, x)
				if err != nil {
					t.Fatal(err)
				}
				wantSame(t, "the power", r.K, got, want, true)
			}
		}
	}
}

// P0.17: what is no rule has the same innermost error and At here as in other layers.

func TestInnermostErrors(t *testing.T) {
	for _, x := range wrongRules() {
		_, want := forms.Mirror(x.r)
		_, got := row.Step(x.r, example())
		wantOp, wantAt, _ := fault.Inner(want)
		op, at, ok := fault.Inner(got)
		if op != wantOp || at != wantAt || !ok || fault.Code(got) != fault.Code(want) {
			t.Errorf("%s: %v, want the end of %v", x.what, got, want)
		}
	}
}

// P7.5

// guarded is w with spare capacity, which holds -77.
func guarded(w []int) []int {
	room := slices.Repeat([]int{-77}, len(w)+8)
	copy(room, w)
	return room[:len(w)]
}

// guardedRow is the row r with spare capacity in its lists.
func guardedRow(r api.Row) api.Row {
	return api.Row{At: r.At, Left: guarded(r.Left), Core: guarded(r.Core), Right: guarded(r.Right)}
}

// intact tells whether w is still want, and its spare capacity is as guarded made it.
func intact(w, want []int) bool {
	spare := w[len(w):cap(w)]
	return slices.Equal(w, want) && !slices.ContainsFunc(spare, func(x int) bool { return x != -77 })
}

// spoil overwrites a result with all of its memory.
func spoil(w []int) {
	w = w[:cap(w)]
	for i := range w {
		w[i] = 99
	}
}

// calls are the lists of the results of all calls for r, x and y.
func calls(r api.Rule, x, y api.Row) [][]int {
	var lists [][]int
	for range 2 {
		z, _ := row.Step(r, x)
		lists = append(lists, z.Left, z.Core, z.Right, []int{z.At})
	}
	for _, n := range []int{0, 1, 5, 30} {
		w, _ := row.Cut(r.K, x, x.At, n)
		lists = append(lists, w)
		w, _ = row.Cut(r.K, x, -12, n)
		lists = append(lists, w)
	}
	c, _ := row.Cell(r.K, x, 3)
	lists = append(lists, []int{c})
	_, _ = row.Same(r.K, x, y)
	_ = row.Check(r.K, x)
	return lists
}

func TestArgumentsStayAndResultsAreNew(t *testing.T) {
	identity := api.Rule{K: 2, R: 0, Table: []int{0, 1}}
	for _, r := range append(some(), elementary(110), elementary(204), identity, api.Rule{K: 9}) {
		k := max(1, min(r.K, 4))
		for _, x := range []api.Row{{}, mixedRow(k, 0, 1, 0, 1), mixedRow(k, 0, 1, 1, 1), mixedRow(k, -4, 2, 9, 5), mixedRow(k, 3, 6, 2, 1), {Left: []int{0}, Core: []int{7}, Right: []int{0}}} {
			rule, arg, second := r, guardedRow(x), guardedRow(x)
			rule.Table = guarded(r.Table)
			lists := calls(rule, arg, second)
			var wants [][]int
			for _, w := range lists {
				wants = append(wants, slices.Clone(w))
			}
			for i, w := range lists {
				spoil(w)
				for j := i + 1; j < len(lists); j++ {
					if !slices.Equal(lists[j], wants[j]) {
						t.Errorf("K %d, R %d, %v: results %d and %d share memory", r.K, r.R, x, i, j)
					}
				}
			}
			for _, y := range []api.Row{arg, second} {
				if !intact(rule.Table, r.Table) || y.At != x.At || !intact(y.Left, x.Left) || !intact(y.Core, x.Core) || !intact(y.Right, x.Right) {
					t.Errorf("K %d, R %d, %v: an argument has changed", r.K, r.R, x)
				}
			}
			for i, w := range calls(rule, arg, second) {
				if !slices.Equal(w, wants[i]) {
					t.Errorf("K %d, R %d, %v: result %d is %v, and then %v", r.K, r.R, x, i, wants[i], w)
				}
			}
		}
	}
}
