package overlap_test

import (
	"math"
	"slices"
	"testing"

	"eden/api"
	"eden/fault"
	"eden/forms"
	"eden/overlap"
	"eden/rule"
)

// wantFault demands one Fault of overlap with the number at, that wraps inner.
func wantFault(t *testing.T, what string, err, inner error, at int) {
	t.Helper()
	f, ok := err.(*api.Fault)
	if !ok || f.Op != "overlap" || f.At != at || f.Err != inner {
		t.Errorf("%s: %v, want overlap %d: %v", what, err, at, inner)
	}
}

// wantRuleFault demands a Fault of overlap with the number 0, that wraps one of rule with the number at, that wraps inner.
func wantRuleFault(t *testing.T, what string, err, inner error, at int) {
	t.Helper()
	f, ok := err.(*api.Fault)
	if !ok || f.Op != "overlap" || f.At != 0 {
		t.Errorf("%s: %v, want overlap 0: rule %d: %v", what, err, at, inner)
		return
	}
	g, ok := f.Err.(*api.Fault)
	if !ok || g.Op != "rule" || g.At != at || g.Err != inner {
		t.Errorf("%s: %v, want overlap 0: rule %d: %v", what, err, at, inner)
	}
}

// shapes are the numbers of symbols and the radii of small rules, with the numbers of windows and of words of 2R symbols.
var shapes = []struct{ k, radius, windows, words int }{
	{1, 0, 1, 1}, {1, 1, 1, 1}, {1, 2, 1, 1}, {1, 3, 1, 1},
	{2, 0, 2, 1}, {2, 1, 8, 4}, {2, 2, 32, 16}, {2, 3, 128, 64},
	{3, 0, 3, 1}, {3, 1, 27, 9}, {3, 2, 243, 81},
	{4, 0, 4, 1}, {4, 1, 64, 16},
}

// mixed is a word with n symbols that look like chance, the same for the same seed.
func mixed(k, n int, seed uint64) []int {
	w := make([]int, n)
	for i := range w {
		seed = seed*6364136223846793005 + 1442695040888963407
		w[i] = int(seed >> 33 % uint64(k))
	}
	return w
}

// sparse is a word with n symbols, few of which are not 0.
func sparse(k, n int, seed uint64) []int {
	w := mixed(k, n, seed)
	for i, x := range mixed(6, n, seed+1) {
		if x != 0 {
			w[i] = 0
		}
	}
	return w
}

// some are small rules of all sizes: for each size some whose tables look like chance, one with few symbols other than 0, and one of the greatest symbol.
func some() []api.Rule {
	var rules []api.Rule
	for _, s := range shapes {
		seed := uint64(10*s.k + s.radius)
		for _, table := range [][]int{
			mixed(s.k, s.windows, seed), mixed(s.k, s.windows, seed+500), sparse(s.k, s.windows, seed), slices.Repeat([]int{s.k - 1}, s.windows),
		} {
			rules = append(rules, api.Rule{K: s.k, R: s.radius, Table: table})
		}
	}
	return rules
}

// elementary is the rule of two symbols and radius 1 whose entries are the bits of code.
func elementary(code int) api.Rule {
	table := make([]int, 8)
	for i := range table {
		table[i] = code >> i & 1
	}
	return api.Rule{K: 2, R: 1, Table: table}
}

// words are the words of n symbols, in their order.
func words(k, n int) [][]int {
	if n == 0 {
		return [][]int{{}}
	}
	var list [][]int
	for first := range k {
		for _, rest := range words(k, n-1) {
			list = append(list, append([]int{first}, rest...))
		}
	}
	return list
}

// number is what the word w represents in base k.
func number(k int, w []int) int {
	n := 0
	for _, symbol := range w {
		n = n*k + symbol
	}
	return n
}

// image is the image of w under r, window by window.
func image(r api.Rule, w []int) []int {
	v := []int{}
	for i := 0; i+2*r.R < len(w); i++ {
		v = append(v, r.Table[number(r.K, w[i:i+2*r.R+1])])
	}
	return v
}

// preimages are, for the number of each word of n symbols, all its preimages under r, in their order.
func preimages(r api.Rule, n int) [][][]int {
	size := 1
	for range n {
		size *= r.K
	}
	lists := make([][][]int, size)
	for _, x := range words(r.K, n+2*r.R) {
		i := number(r.K, image(r, x))
		lists[i] = append(lists[i], x)
	}
	return lists
}

// longestOf is the length up to which all words are looked at, so that they have few enough preimages in all.
func longestOf(r api.Rule) int {
	if r.K == 1 {
		return 6
	}
	n, size := 0, 1
	for range 2 * r.R {
		size *= r.K
	}
	for size*r.K <= 1<<12 {
		size *= r.K
		n++
	}
	return n
}

// with is the word w with another number at index i.
func with(w []int, i, x int) []int {
	w = slices.Clone(w)
	w[i] = x
	return w
}

// equal tells whether two lists of words are the same.
func equal(a, b [][]int) bool {
	return slices.EqualFunc(a, b, func(v, w []int) bool { return slices.Equal(v, w) })
}

// wrongRule is a rule that is no small rule, with the error of rule.Small.
type wrongRule struct {
	what  string
	r     api.Rule
	inner error
	at    int
}

// wrongRules are rules that are no small rules.
func wrongRules() []wrongRule {
	table := elementary(110).Table
	return []wrongRule{
		{"no rule", api.Rule{}, api.BadRule, 0},
		{"5 symbols", api.Rule{K: 5, R: 1, Table: table}, api.BadRule, 0},
		{"least K", api.Rule{K: math.MinInt, R: 1, Table: table}, api.BadRule, 0},
		{"greatest K", api.Rule{K: math.MaxInt, R: math.MaxInt}, api.BadRule, 0},
		{"radius -1", api.Rule{K: 2, R: -1, Table: table}, api.BadRule, 1},
		{"radius 4", api.Rule{K: 1, R: 4, Table: []int{0}}, api.BadRule, 1},
		{"greatest radius", api.Rule{K: 2, R: math.MaxInt, Table: []int{7}}, api.BadRule, 1},
		{"no table", api.Rule{K: 2, R: 1}, api.BadRule, 2},
		{"seven entries", api.Rule{K: 2, R: 1, Table: table[:7]}, api.BadRule, 2},
		{"nine entries", api.Rule{K: 2, R: 1, Table: append(slices.Clone(table), 9)}, api.BadRule, 2},
		{"entry 4", api.Rule{K: 2, R: 1, Table: with(table, 4, 2)}, api.BadRule, 7},
		{"entry 0", api.Rule{K: 2, R: 1, Table: with(table, 0, -1)}, api.BadRule, 3},
		{"entry 7", api.Rule{K: 2, R: 1, Table: with(table, 7, math.MaxInt)}, api.BadRule, 10},
		{"1024 entries", api.Rule{K: 4, R: 2, Table: make([]int, 1024)}, api.TooBig, 0},
		{"2187 entries", api.Rule{K: 3, R: 3, Table: make([]int, 2187)}, api.TooBig, 0},
		{"16384 entries", api.Rule{K: 4, R: 3, Table: make([]int, 16384)}, api.TooBig, 0},
		{"1024 entries and a wrong one", api.Rule{K: 4, R: 2, Table: with(make([]int, 1024), 1000, 4)}, api.BadRule, 1003},
	}
}

// P8.1

func TestNodes(t *testing.T) {
	for _, s := range shapes {
		n, err := overlap.Nodes(api.Rule{K: s.k, R: s.radius, Table: make([]int, s.windows)})
		if n != s.words || err != nil {
			t.Errorf("K %d, R %d: %d nodes, %v, want %d", s.k, s.radius, n, err, s.words)
		}
	}
}

func TestEdge(t *testing.T) {
	for _, r := range some() {
		for node, w := range words(r.K, 2*r.R) {
			for s := range r.K {
				window := append(slices.Clone(w), s)
				wantTo, wantLabel := number(r.K, window[1:]), r.Table[number(r.K, window)]
				to, label, err := overlap.Edge(r, node, s)
				if to != wantTo || label != wantLabel || err != nil {
					t.Errorf("K %d, R %d: from node %d by %d to %d, label %d, %v, want %d, %d", r.K, r.R, node, s, to, label, err, wantTo, wantLabel)
				}
			}
		}
	}
}

// wantNoEdge demands that there is no such edge.
func wantNoEdge(t *testing.T, what string, r api.Rule, node, s, at int) {
	t.Helper()
	to, label, err := overlap.Edge(r, node, s)
	wantFault(t, what, err, api.BadArg, at)
	if to != 0 || label != 0 {
		t.Errorf("%s: %d, %d beside an error", what, to, label)
	}
}

func TestEdgeOfWrongArguments(t *testing.T) {
	r := elementary(110)
	wantNoEdge(t, "example 1, node 4", r, 4, 0, 1)
	wantNoEdge(t, "example 1, symbol 2", r, 0, 2, 2)
	for _, s := range shapes {
		r := api.Rule{K: s.k, R: s.radius, Table: make([]int, s.windows)}
		for _, node := range []int{-1, s.words, s.words + 1, math.MinInt, math.MaxInt} {
			wantNoEdge(t, "no node", r, node, 0, 1)
			wantNoEdge(t, "no node and no symbol", r, node, s.k, 1)
			wantNoEdge(t, "no node and no symbol", r, node, -1, 1)
		}
		for _, symbol := range []int{-1, s.k, s.k + 1, math.MinInt, math.MaxInt} {
			wantNoEdge(t, "no symbol", r, 0, symbol, 2)
			wantNoEdge(t, "no symbol", r, s.words-1, symbol, 2)
		}
	}
}

func TestWrongRules(t *testing.T) {
	long := slices.Repeat([]int{9}, api.MaxWord+1)
	for _, x := range wrongRules() {
		n, err := overlap.Nodes(x.r)
		wantRuleFault(t, "Nodes, "+x.what, err, x.inner, x.at)
		to, label, err := overlap.Edge(x.r, -1, -1)
		wantRuleFault(t, "Edge, "+x.what, err, x.inner, x.at)
		if n != 0 || to != 0 || label != 0 {
			t.Errorf("%s: %d nodes, an edge to %d, %d beside an error", x.what, n, to, label)
		}
		for _, w := range [][]int{nil, {0}, {9}, long} {
			nodes, labels, err := overlap.Path(x.r, w)
			wantRuleFault(t, "Path, "+x.what, err, x.inner, x.at)
			has, err := overlap.Has(x.r, w)
			wantRuleFault(t, "Has, "+x.what, err, x.inner, x.at)
			if len(nodes) != 0 || len(labels) != 0 || has {
				t.Errorf("%s: %v, %v, %v beside an error", x.what, nodes, labels, has)
			}
			for _, most := range []int{-1, 9, api.MaxList + 1} {
				list, further, err := overlap.Before(x.r, w, most)
				wantRuleFault(t, "Before, "+x.what, err, x.inner, x.at)
				if len(list) != 0 || further {
					t.Errorf("%s: %v, %v beside an error", x.what, list, further)
				}
			}
		}
	}
}

// P8.2

// wantPath demands the nodes of x, one for each 2R consecutive symbols, and its image.
func wantPath(t *testing.T, r api.Rule, x []int) {
	t.Helper()
	var want []int
	for i := 0; i+2*r.R <= len(x); i++ {
		want = append(want, number(r.K, x[i:i+2*r.R]))
	}
	nodes, labels, err := overlap.Path(r, x)
	if err != nil || !slices.Equal(nodes, want) || !slices.Equal(labels, image(r, x)) {
		t.Errorf("K %d, R %d, %v: %v, %v, %v, want %v, %v", r.K, r.R, x, nodes, labels, err, want, image(r, x))
	}
}

func TestPath(t *testing.T) {
	for _, r := range some() {
		for n := range 40 {
			wantPath(t, r, mixed(r.K, n, uint64(n)))
			wantPath(t, r, make([]int, n))
			wantPath(t, r, slices.Repeat([]int{r.K - 1}, n))
		}
		wantPath(t, r, mixed(r.K, api.MaxWord-1, 1))
		wantPath(t, r, mixed(r.K, api.MaxWord, 2))
	}
}

func TestPathOfTheExamples(t *testing.T) {
	for _, x := range []struct{ w, nodes, labels []int }{
		{[]int{0, 0, 1, 1}, []int{0, 1, 3}, []int{1, 1}},
		{[]int{1, 0}, []int{2}, nil},
		{[]int{1}, nil, nil},
		{nil, nil, nil},
	} {
		nodes, labels, err := overlap.Path(elementary(110), x.w)
		if err != nil || !slices.Equal(nodes, x.nodes) || !slices.Equal(labels, x.labels) {
			t.Errorf("%v: %v, %v, %v, want %v, %v", x.w, nodes, labels, err, x.nodes, x.labels)
		}
	}
}

func TestPathIsMadeOfEdgesAndIsTheImage(t *testing.T) {
	for _, r := range some() {
		x := mixed(r.K, 50, 7)
		nodes, labels, _ := overlap.Path(r, x)
		step, _ := rule.Step(r, x)
		if len(nodes) != len(labels)+1 || !slices.Equal(labels, step) {
			t.Fatalf("K %d, R %d: %d nodes, labels %v, want %v", r.K, r.R, len(nodes), labels, step)
		}
		for i, label := range labels {
			to, l, err := overlap.Edge(r, nodes[i], x[2*r.R+i])
			if to != nodes[i+1] || l != label || err != nil {
				t.Errorf("K %d, R %d: edge %d leads to %d, label %d, %v, want %d, %d", r.K, r.R, i, to, l, err, nodes[i+1], label)
			}
		}
	}
}

// wrongWord is a word that is none, with the fault that it has.
type wrongWord struct {
	w     []int
	inner error
	at    int
}

// wrongWords are words that are too long for words of at most longest symbols, or have numbers that are no symbols of k.
func wrongWords(k, longest int) []wrongWord {
	list := []wrongWord{
		{make([]int, longest+1), api.TooBig, 1},
		{make([]int, 2*longest), api.TooBig, 1},
		{with(make([]int, longest+1), 0, -1), api.TooBig, 1},
		{with(make([]int, longest), longest-1, k), api.BadWord, longest - 1},
		{with(make([]int, longest), 0, k), api.BadWord, 0},
		{with(with(make([]int, 9), 3, k), 5, -1), api.BadWord, 3},
		{with(with(make([]int, 9), 3, -1), 2, k), api.BadWord, 2},
	}
	for _, x := range []int{-1, k, k + 1, math.MinInt, math.MaxInt} {
		list = append(list, wrongWord{[]int{x}, api.BadWord, 0}, wrongWord{[]int{0, x, 0}, api.BadWord, 1}, wrongWord{with(make([]int, 12), 11, x), api.BadWord, 11})
	}
	return list
}

func TestPathOfWrongWords(t *testing.T) {
	for _, r := range some() {
		for _, x := range wrongWords(r.K, api.MaxWord) {
			nodes, labels, err := overlap.Path(r, x.w)
			wantFault(t, "Path", err, x.inner, x.at)
			if len(nodes) != 0 || len(labels) != 0 {
				t.Errorf("%d nodes, %d labels beside an error", len(nodes), len(labels))
			}
		}
	}
}

// P8.3

// wantHas demands this answer of Has.
func wantHas(t *testing.T, what string, r api.Rule, w []int, want bool) {
	t.Helper()
	has, err := overlap.Has(r, w)
	if has != want || err != nil {
		t.Errorf("%s, K %d, R %d, %v: %v, %v, want %v", what, r.K, r.R, w, has, err, want)
	}
}

func TestHas(t *testing.T) {
	for _, r := range some() {
		for n := 0; n <= longestOf(r); n++ {
			all := words(r.K, n)
			for i, list := range preimages(r, n) {
				wantHas(t, "by enumeration", r, all[i], len(list) > 0)
			}
		}
	}
}

func TestHasOfElementaryRules(t *testing.T) {
	for code := range 256 {
		r := elementary(code)
		for n := range 8 {
			all := words(2, n)
			for i, list := range preimages(r, n) {
				wantHas(t, "by enumeration", r, all[i], len(list) > 0)
			}
		}
	}
}

func TestHasOfTheExamples(t *testing.T) {
	wantHas(t, "example 3", elementary(90), []int{1, 1, 1}, true)
	wantHas(t, "example 3", elementary(0), []int{1}, false)
	wantHas(t, "example 3", elementary(110), []int{0, 1, 0, 1, 0}, false)
	wantHas(t, "empty word", elementary(0), nil, true)
}

func TestHasOfLongWords(t *testing.T) {
	for _, r := range some() {
		for seed := range uint64(5) {
			w := image(r, mixed(r.K, api.MaxLen+2*r.R, seed))
			wantHas(t, "longest image", r, w, true)
			wantHas(t, "image", r, w[1:200], true)
		}
	}
	// An orphan makes every word an orphan of which it is a part, wherever it stands.
	r, orphan := elementary(110), []int{0, 1, 0, 1, 0}
	zeros := make([]int, api.MaxLen-len(orphan))
	for i := range zeros {
		wantHas(t, "orphan inside", r, slices.Concat(zeros[:i], orphan, zeros[i:]), false)
	}
	wantHas(t, "orphan at the end", r, slices.Concat(zeros, orphan), false)
	wantHas(t, "zeros", r, make([]int, api.MaxLen), true)
	// Under rule 0, each symbol counts.
	for i := range api.MaxLen {
		wantHas(t, "a single 1", elementary(0), with(make([]int, api.MaxLen), i, 1), false)
	}
}

func TestHasOfWrongWords(t *testing.T) {
	for _, r := range some() {
		for _, x := range wrongWords(r.K, api.MaxLen) {
			has, err := overlap.Has(r, x.w)
			wantFault(t, "Has", err, x.inner, x.at)
			if has {
				t.Error("true beside an error")
			}
		}
	}
}

// P8.4

// wantBefore demands the first ones of these preimages, at most most of them.
func wantBefore(t *testing.T, r api.Rule, w []int, most int, all [][]int) {
	t.Helper()
	want := all[:min(most, len(all))]
	list, further, err := overlap.Before(r, w, most)
	if err != nil || further != (len(all) > most) || !equal(list, want) {
		t.Errorf("K %d, R %d, %v, %d: %v, %v, %v, want %v, %v", r.K, r.R, w, most, list, further, err, want, len(all) > most)
	}
}

func TestBefore(t *testing.T) {
	for _, r := range some() {
		for n := 0; n <= longestOf(r); n++ {
			all := words(r.K, n)
			for i, list := range preimages(r, n) {
				for _, most := range []int{0, 1, 3, len(list) - 1, len(list), len(list) + 1, api.MaxList} {
					if most >= 0 && most <= api.MaxList {
						wantBefore(t, r, all[i], most, list)
					}
				}
			}
		}
	}
}

func TestBeforeOfElementaryRules(t *testing.T) {
	for code := range 256 {
		r := elementary(code)
		for n := range 6 {
			all := words(2, n)
			for i, list := range preimages(r, n) {
				for _, most := range []int{0, 1, 2, 4, 200} {
					wantBefore(t, r, all[i], most, list)
				}
			}
		}
	}
}

func TestBeforeOfTheExamples(t *testing.T) {
	all := [][]int{{0, 0, 1}, {0, 1, 1}, {1, 0, 0}, {1, 1, 0}}
	for most := range 10 {
		wantBefore(t, elementary(90), []int{1}, most, all)
		wantBefore(t, elementary(90), nil, most, [][]int{{0, 0}, {0, 1}, {1, 0}, {1, 1}})
		wantBefore(t, elementary(0), []int{1}, most, nil)
		wantBefore(t, api.Rule{K: 2, R: 0, Table: []int{1, 0}}, nil, most, [][]int{{}})
	}
}

// binary is the word of n digits 0 and 1 that represents x.
func binary(n, x int) []int {
	w := make([]int, n)
	for i := range w {
		w[n-1-i] = x >> i & 1
	}
	return w
}

func TestBeforeOfWordsWithImmenselyManyPreimages(t *testing.T) {
	w := make([]int, api.MaxLen)
	for _, most := range []int{0, 1, 2, 255, api.MaxList} {
		var want [][]int
		for i := range most {
			want = append(want, binary(api.MaxLen+2, i))
		}
		list, further, err := overlap.Before(elementary(0), w, most)
		if err != nil || !further || !equal(list, want) {
			t.Errorf("rule 0, %d: %d words, %v, %v", most, len(list), further, err)
		}
	}
}

// In these words, only the last symbol decides: a search that goes from the front without looking ahead would not end.
func TestBeforeOfWordsThatEndAsOrphans(t *testing.T) {
	for _, r := range []api.Rule{elementary(0), {K: 2, R: 3, Table: make([]int, 128)}, {K: 3, R: 2, Table: make([]int, 243)}, {K: 4, R: 1, Table: make([]int, 64)}} {
		wantBefore(t, r, with(make([]int, api.MaxLen), api.MaxLen-1, 1), api.MaxList, nil)
		// With a single window of the symbol 1, all preimages have the same end.
		r.Table = with(r.Table, len(r.Table)-1, 1)
		w := with(make([]int, api.MaxLen), api.MaxLen-1, 1)
		list, further, err := overlap.Before(r, w, api.MaxList)
		if err != nil || !further || len(list) != api.MaxList {
			t.Errorf("K %d, R %d: %d words, %v, %v", r.K, r.R, len(list), further, err)
		}
		for i, x := range list {
			if !slices.Equal(image(r, x), w) || i > 0 && slices.Compare(list[i-1], x) >= 0 {
				t.Errorf("K %d, R %d: word %d is no preimage, or out of order", r.K, r.R, i)
			}
		}
	}
}

func TestBeforeOfLongWords(t *testing.T) {
	for _, r := range some() {
		x := mixed(r.K, api.MaxLen+2*r.R, 3)
		w := image(r, x)
		list, further, err := overlap.Before(r, w, api.MaxList)
		if err != nil || len(list) == 0 {
			t.Fatalf("K %d, R %d: %d words, %v, %v", r.K, r.R, len(list), further, err)
		}
		for i, x := range list {
			if !slices.Equal(image(r, x), w) || i > 0 && slices.Compare(list[i-1], x) >= 0 {
				t.Errorf("K %d, R %d: word %d is no preimage, or out of order", r.K, r.R, i)
			}
		}
		found := slices.ContainsFunc(list, func(y []int) bool { return slices.Equal(x, y) })
		last := list[len(list)-1]
		if !found && (!further || slices.Compare(x, last) < 0) {
			t.Errorf("K %d, R %d: a preimage is missing", r.K, r.R)
		}
		wantBefore(t, r, w, 1, append(list[:1:1], slices.Repeat(list[:1], min(1, len(list)-1))...))
	}
}

func TestBeforeOfWrongArguments(t *testing.T) {
	for _, r := range some() {
		for _, x := range wrongWords(r.K, api.MaxLen) {
			for _, most := range []int{0, 9, -1, api.MaxList + 1, math.MinInt, math.MaxInt} {
				list, further, err := overlap.Before(r, x.w, most)
				wantFault(t, "Before of a wrong word", err, x.inner, x.at)
				if len(list) != 0 || further {
					t.Errorf("%v, %v beside an error", list, further)
				}
			}
		}
		for _, w := range [][]int{nil, {0}, make([]int, api.MaxLen)} {
			for _, most := range []int{-1, math.MinInt, api.MaxList + 1, math.MaxInt} {
				inner := api.BadArg
				if most > 0 {
					inner = api.TooBig
				}
				list, further, err := overlap.Before(r, w, most)
				wantFault(t, "Before with a wrong most", err, inner, 2)
				if len(list) != 0 || further {
					t.Errorf("%v, %v beside an error", list, further)
				}
			}
		}
	}
}

// P0.6

func TestComposedPreimages(t *testing.T) {
	for a := 0; a < 256; a += 11 {
		for b := 0; b < 256; b += 17 {
			first, second := elementary(a), elementary(b)
			both, _ := forms.Compose(second, first)
			for _, w := range words(2, 3) {
				list, _, _ := overlap.Before(both, w, api.MaxList)
				between, _, _ := overlap.Before(second, w, api.MaxList)
				n := 0
				for _, v := range between {
					before, _, _ := overlap.Before(first, v, api.MaxList)
					n += len(before)
				}
				if len(list) != n {
					t.Errorf("first %d, then %d, %v: %d preimages, want %d", a, b, w, len(list), n)
				}
			}
		}
	}
}

// P0.7

func TestMirroredAndRenamedRules(t *testing.T) {
	for _, r := range some() {
		exchange := make([]int, r.K)
		for i := range exchange {
			exchange[i] = r.K - 1 - i
		}
		mirrored, _ := forms.Mirror(r)
		renamed, _ := forms.Rename(r, exchange)
		for seed := range uint64(20) {
			w := mixed(r.K, 1+int(seed), seed)
			back, other := slices.Clone(w), slices.Clone(w)
			slices.Reverse(back)
			for i, symbol := range w {
				other[i] = exchange[symbol]
			}
			has, _ := overlap.Has(r, w)
			wantHas(t, "mirrored", mirrored, back, has)
			wantHas(t, "renamed", renamed, other, has)
		}
	}
}

// P0.10

func TestPermutiveRules(t *testing.T) {
	for _, x := range []struct {
		r    api.Rule
		left bool
	}{{elementary(30), true}, {elementary(86), false}, {elementary(90), true}, {elementary(90), false}} {
		w := mixed(2, api.MaxLen, 5)
		list, further, err := overlap.Before(x.r, w, api.MaxList)
		seen := map[int]int{}
		for _, y := range list {
			end := y[:2]
			if x.left {
				end = y[len(y)-2:]
			}
			seen[number(2, end)]++
		}
		if err != nil || further || len(list) != 4 || len(seen) != 4 {
			t.Errorf("%v: %d preimages, %v, %v, with %d ends", x.r.Table, len(list), further, err, len(seen))
		}
	}
}

// P0.17

func TestInnermostErrors(t *testing.T) {
	for _, x := range wrongRules() {
		want := rule.Small(x.r)
		wantOp, wantAt, _ := fault.Inner(want)
		_, nodes := overlap.Nodes(x.r)
		_, _, edge := overlap.Edge(x.r, 0, 0)
		_, _, path := overlap.Path(x.r, nil)
		_, has := overlap.Has(x.r, nil)
		_, _, before := overlap.Before(x.r, nil, 1)
		for _, got := range []error{nodes, edge, path, has, before} {
			op, at, ok := fault.Inner(got)
			if op != wantOp || at != wantAt || !ok || fault.Code(got) != fault.Code(want) {
				t.Errorf("%s: %v, want the end of %v", x.what, got, want)
			}
		}
	}
}

// P8.5

// guarded is w with spare capacity, which holds -77.
func guarded(w []int) []int {
	room := slices.Repeat([]int{-77}, len(w)+8)
	copy(room, w)
	return room[:len(w)]
}

// intact tells whether w is still want, and its spare capacity is as guarded made it.
func intact(w, want []int) bool {
	spare := w[len(w):cap(w)]
	return slices.Equal(w, want) && !slices.ContainsFunc(spare, func(x int) bool { return x != -77 })
}

// spoil overwrites a result with all of its memory.
func spoil(w []int) {
	w = w[:cap(w)]
	for i := range w {
		w[i] = 99
	}
}

// calls are the lists of the results of all calls for r and w, each made twice.
func calls(r api.Rule, w []int) [][]int {
	var lists [][]int
	for range 2 {
		nodes, labels, _ := overlap.Path(r, w)
		has, _ := overlap.Has(r, w)
		number := 0
		if has {
			number = 1
		}
		lists = append(lists, nodes, labels, []int{number})
		for _, most := range []int{0, 3, 40} {
			list, _, _ := overlap.Before(r, w, most)
			lists = append(lists, list...)
			_, _, _ = overlap.Edge(r, most, 0)
		}
	}
	return lists
}

func TestArgumentsStayAndResultsAreNew(t *testing.T) {
	for _, r := range append(some(), elementary(110), elementary(204), elementary(90), api.Rule{K: 9}) {
		k := max(1, min(r.K, 4))
		for _, w := range [][]int{nil, {0}, mixed(k, 2, 1), mixed(k, 5, 2), make([]int, 9), {0, 7}} {
			arg, word := r, guarded(w)
			arg.Table = guarded(r.Table)
			lists := calls(arg, word)
			var wants [][]int
			for _, v := range lists {
				wants = append(wants, slices.Clone(v))
			}
			for i, v := range lists {
				spoil(v)
				for j := i + 1; j < len(lists); j++ {
					if !slices.Equal(lists[j], wants[j]) {
						t.Errorf("K %d, R %d, %v: results %d and %d share memory", r.K, r.R, w, i, j)
					}
				}
			}
			if !intact(arg.Table, r.Table) || !intact(word, w) {
				t.Errorf("K %d, R %d, %v: an argument has changed", r.K, r.R, w)
			}
			for i, v := range calls(arg, word) {
				if !slices.Equal(v, wants[i]) {
					t.Errorf("K %d, R %d, %v: result %d is %v, and then %v", r.K, r.R, w, i, wants[i], v)
				}
			}
		}
	}
}
