package word_test

import (
	"math"
	"slices"
	"strings"
	"testing"

	"eden/api"
	"eden/fault"
	"eden/nat"
	"eden/word"
)

// wantFault demands one Fault of word with the number at, that wraps inner.
func wantFault(t *testing.T, what string, err, inner error, at int) {
	t.Helper()
	f, ok := err.(*api.Fault)
	if !ok || f.Op != "word" || f.At != at || f.Err != inner {
		t.Errorf("%s: %v, want word %d: %v", what, err, at, inner)
	}
}

// wantWord demands this word and no error.
func wantWord(t *testing.T, what string, got []int, err error, want ...int) {
	t.Helper()
	if err != nil || !slices.Equal(got, want) {
		t.Errorf("%s: %v, %v, want %v", what, got, err, want)
	}
}

// all are the words over k symbols with n symbols, in their order.
func all(k, n int) [][]int {
	if n == 0 {
		return [][]int{{}}
	}
	var words [][]int
	for first := range k {
		for _, rest := range all(k, n-1) {
			words = append(words, append([]int{first}, rest...))
		}
	}
	return words
}

// upTo are the words over k symbols with at most n symbols, in their order.
func upTo(k, n int) [][]int {
	var words [][]int
	for length := range n + 1 {
		words = append(words, all(k, length)...)
	}
	return words
}

// mixed is a word with n symbols that look like chance, the same for the same seed.
func mixed(k, n int, seed uint64) []int {
	w := make([]int, n)
	for i := range w {
		seed = seed*6364136223846793005 + 1442695040888963407
		w[i] = int(seed >> 33 % uint64(k))
	}
	return w
}

// zeros is the word of n zeros.
func zeros(n int) []int {
	return make([]int, n)
}

// wrong is a word, or a number of symbols, that Check rejects.
type wrong struct {
	what  string
	k     int
	w     []int
	inner error
	at    int
}

func wrongs() []wrong {
	late := zeros(api.MaxWord)
	late[api.MaxWord-1] = 1
	return []wrong{
		{"no symbols", 0, nil, api.BadArg, 0},
		{"five symbols", 5, nil, api.BadArg, 0},
		{"a negative number of symbols", -1, []int{0}, api.BadArg, 0},
		{"the least number of symbols", math.MinInt, nil, api.BadArg, 0},
		{"the greatest number of symbols", math.MaxInt, []int{0}, api.BadArg, 0},
		{"k ahead of the length", 5, zeros(api.MaxWord + 1), api.BadArg, 0},
		{"k ahead of the symbols", 0, []int{0, 7}, api.BadArg, 0},
		{"too long", 2, zeros(api.MaxWord + 1), api.TooBig, 0},
		{"the length ahead of the symbols", 2, slices.Repeat([]int{9}, api.MaxWord+1), api.TooBig, 0},
		{"example 1", 2, []int{0, 2, -1}, api.BadWord, 1},
		{"a symbol k", 3, []int{0, 1, 2, 3}, api.BadWord, 3},
		{"the only symbol but 0", 1, []int{0, 1}, api.BadWord, 1},
		{"a negative symbol", 4, []int{-1, 9}, api.BadWord, 0},
		{"the greatest symbol", 4, []int{3, math.MaxInt}, api.BadWord, 1},
		{"the least symbol", 4, []int{3, 2, math.MinInt}, api.BadWord, 2},
		{"the last symbol", 1, late, api.BadWord, api.MaxWord - 1},
	}
}

// P3.1

func TestCheck(t *testing.T) {
	for k := 1; k <= api.MaxK; k++ {
		for _, w := range [][]int{nil, {}, {0}, {k - 1}, {0, k - 1, 0}, zeros(api.MaxWord)} {
			if err := word.Check(k, w); err != nil {
				t.Errorf("Check(%d, %v): %v", k, w, err)
			}
		}
	}
	if err := word.Check(2, []int{0, 1, 1}); err != nil {
		t.Error("example 1:", err)
	}
	for _, x := range wrongs() {
		wantFault(t, x.what, word.Check(x.k, x.w), x.inner, x.at)
	}
}

// P3.2

func TestCmp(t *testing.T) {
	words := upTo(3, 3)
	for i, a := range words {
		for j, b := range words {
			want := 0
			if i < j {
				want = -1
			} else if i > j {
				want = 1
			}
			if got := word.Cmp(a, b); got != want {
				t.Errorf("Cmp(%v, %v): %d, want %d", a, b, got, want)
			}
		}
	}
}

func TestCmpOfAnyNumbers(t *testing.T) {
	// Each word precedes the one behind it.
	words := [][]int{
		nil, {math.MinInt}, {-1}, {0}, {math.MaxInt}, {math.MinInt, math.MaxInt}, {-5, 9}, {0, math.MinInt}, {0, 7},
		{7, 0}, {math.MaxInt, math.MinInt}, {math.MinInt, 0, 0},
	}
	for i, a := range words {
		for j, b := range words {
			got := word.Cmp(a, b)
			if (got == -1) != (i < j) || (got == 1) != (i > j) || (got == 0) != (i == j) {
				t.Errorf("Cmp(%v, %v): %d", a, b, got)
			}
		}
	}
	if word.Cmp(nil, []int{}) != 0 {
		t.Error("nil and empty words differ")
	}
}

// P3.3

func TestNext(t *testing.T) {
	for k := 1; k <= api.MaxK; k++ {
		words := upTo(k, 5)
		for i, w := range words[:len(words)-1] {
			next, err := word.Next(k, w)
			wantWord(t, "the word behind "+digits(w), next, err, words[i+1]...)
		}
	}
}

func TestNextOfLongWords(t *testing.T) {
	next, err := word.Next(1, zeros(api.MaxWord-1))
	wantWord(t, "one symbol", next, err, zeros(api.MaxWord)...)
	next, err = word.Next(4, slices.Repeat([]int{3}, api.MaxWord-1))
	wantWord(t, "a last word of its length", next, err, zeros(api.MaxWord)...)
	w := zeros(api.MaxWord)
	for i := 1; i < len(w); i++ {
		w[i] = 1
	}
	want := zeros(api.MaxWord)
	want[0] = 1
	next, err = word.Next(2, w)
	wantWord(t, "a word as long as can be", next, err, want...)
	for k := 1; k <= api.MaxK; k++ {
		next, err = word.Next(k, slices.Repeat([]int{k - 1}, api.MaxWord))
		wantFault(t, "the last word of all", err, api.TooBig, 0)
		if len(next) != 0 {
			t.Error("a word beside an error")
		}
	}
}

func TestNextOfWrongWords(t *testing.T) {
	for _, x := range wrongs() {
		next, err := word.Next(x.k, x.w)
		wantFault(t, x.what, err, x.inner, x.at)
		if len(next) != 0 {
			t.Errorf("%s: a word beside an error", x.what)
		}
	}
}

// P3.4

func TestIndexAndAt(t *testing.T) {
	for k := 1; k <= api.MaxK; k++ {
		for n := range 6 {
			for i, w := range all(k, n) {
				index, err := word.Index(k, w)
				if err != nil || !slices.Equal(index, nat.From(uint64(i))) {
					t.Errorf("Index(%d, %v): %v, %v, want %d", k, w, index, err, i)
				}
				got, err := word.At(k, n, nat.From(uint64(i)))
				wantWord(t, "the word at an index", got, err, w...)
			}
		}
	}
}

func TestIndexAndAtOfLongWords(t *testing.T) {
	for k := 1; k <= api.MaxK; k++ {
		for _, n := range []int{31, 32, 33, 63, 64, 65, 200, api.MaxLen} {
			w := mixed(k, n, uint64(n))
			index, err := word.Index(k, w)
			if err != nil {
				t.Errorf("Index(%d, %v): %v", k, w, err)
			}
			got, err := word.At(k, n, index)
			wantWord(t, "the word of the index", got, err, w...)
			checkEnds(t, k, n)
		}
	}
	// The index of a binary word is the number that it writes.
	index, err := word.Index(2, append([]int{1}, zeros(api.MaxLen-1)...))
	if err != nil || !slices.Equal(index, api.Nat{0, 0, 0, 0, 0, 0, 0, 1 << 31}) {
		t.Errorf("2^255: %v, %v", index, err)
	}
}

// checkEnds looks at the last word over k symbols with n symbols, and beyond it.
func checkEnds(t *testing.T, k, n int) {
	t.Helper()
	count, err := nat.Pow(uint32(k), n)
	if err != nil {
		t.Fatal(err)
	}
	last, err := nat.Sub(count, nat.From(1))
	if err != nil {
		t.Fatal(err)
	}
	w := slices.Repeat([]int{k - 1}, n)
	index, err := word.Index(k, w)
	if err != nil || !slices.Equal(index, last) {
		t.Errorf("the last word's index: %v, %v, want %v", index, err, last)
	}
	got, err := word.At(k, n, last)
	wantWord(t, "the last word", got, err, w...)
	got, err = word.At(k, n, count)
	wantFault(t, "beyond the last word", err, api.BadArg, 0)
	if len(got) != 0 {
		t.Error("a word beside an error")
	}
}

func TestAtOfIndicesThatAreNotNormal(t *testing.T) {
	got, err := word.At(2, 3, api.Nat{5, 0, 0})
	wantWord(t, "trailing zero limbs", got, err, 1, 0, 1)
	got, err = word.At(3, 2, api.Nat{0})
	wantWord(t, "a zero limb", got, err, 0, 0)
	got, err = word.At(3, 0, api.Nat{0, 0})
	wantWord(t, "the empty word", got, err)
}

func TestIndexOfWrongWords(t *testing.T) {
	tooLong := []wrong{
		{"one symbol too many", 2, zeros(api.MaxLen + 1), api.TooBig, 0},
		{"one symbol too many for the counts, k 1", 1, zeros(api.MaxLen + 1), api.TooBig, 0},
		{"as long as Check allows", 4, zeros(api.MaxWord), api.TooBig, 0},
		{"symbols ahead of the length", 2, append(zeros(api.MaxLen), 2), api.BadWord, api.MaxLen},
	}
	for _, x := range append(wrongs(), tooLong...) {
		index, err := word.Index(x.k, x.w)
		wantFault(t, x.what, err, x.inner, x.at)
		if len(index) != 0 {
			t.Errorf("%s: %v beside an error", x.what, index)
		}
	}
}

func TestAtOfWrongArguments(t *testing.T) {
	huge := slices.Repeat(api.Nat{math.MaxUint32}, 1000)
	for _, x := range []struct {
		what  string
		k, n  int
		i     api.Nat
		inner error
	}{
		{"no symbols", 0, 1, nil, api.BadArg},
		{"five symbols", 5, 1, nil, api.BadArg},
		{"many symbols", math.MaxInt, 1, nil, api.BadArg},
		{"2^32 + 2 symbols", 1<<32 + 2, 1, nil, api.BadArg},
		{"a negative number of symbols", -2, 1, nil, api.BadArg},
		{"a negative length", 2, -1, nil, api.BadArg},
		{"the least length", 2, math.MinInt, nil, api.BadArg},
		{"k ahead of the length", 0, api.MaxLen + 1, nil, api.BadArg},
		{"too long", 2, api.MaxLen + 1, nil, api.TooBig},
		{"the greatest length", 1, math.MaxInt, nil, api.TooBig},
		{"the length ahead of the index", 2, api.MaxLen + 1, huge, api.TooBig},
		{"example 3", 2, 3, api.Nat{8}, api.BadArg},
		{"the empty word at 1", 2, 0, api.Nat{1}, api.BadArg},
		{"one symbol at 1", 1, 4, api.Nat{1}, api.BadArg},
		{"a low limb that would do", 2, 3, api.Nat{5, 1}, api.BadArg},
		{"a low limb that would do for one symbol", 1, 3, api.Nat{0, 0, 1}, api.BadArg},
		{"a great index", 4, api.MaxLen, huge, api.BadArg},
	} {
		got, err := word.At(x.k, x.n, x.i)
		wantFault(t, x.what, err, x.inner, 0)
		if len(got) != 0 {
			t.Errorf("%s: %v beside an error", x.what, got)
		}
	}
}

// P3.5

// digits are the symbols of w as text.
func digits(w []int) string {
	var text strings.Builder
	for _, symbol := range w {
		text.WriteByte("0123"[symbol])
	}
	return text.String()
}

func TestTextAndParse(t *testing.T) {
	for k := 1; k <= api.MaxK; k++ {
		for _, w := range append(upTo(k, 4), zeros(api.MaxWord), mixed(k, api.MaxWord, 1), mixed(k, 77, 2)) {
			s, err := word.Text(k, w)
			if err != nil || s != digits(w) {
				t.Errorf("Text(%d, %v): %q, %v", k, w, s, err)
			}
			got, err := word.Parse(k, digits(w))
			wantWord(t, "Parse of "+digits(w), got, err, w...)
		}
	}
	if s, err := word.Text(4, []int{0, 3, 1}); err != nil || s != "031" {
		t.Errorf("example 4: %q, %v", s, err)
	}
}

func TestTextOfWrongWords(t *testing.T) {
	for _, x := range wrongs() {
		s, err := word.Text(x.k, x.w)
		wantFault(t, x.what, err, x.inner, x.at)
		if s != "" {
			t.Errorf("%s: %q beside an error", x.what, s)
		}
	}
}

func TestParseOfWrongTexts(t *testing.T) {
	long := strings.Repeat("0", api.MaxWord)
	for _, x := range []struct {
		what  string
		k     int
		s     string
		inner error
		at    int
	}{
		{"no symbols", 0, "", api.BadArg, 0},
		{"five symbols", 5, "01", api.BadArg, 0},
		{"a negative number of symbols", -1, "", api.BadArg, 0},
		{"the greatest number of symbols", math.MaxInt, "x", api.BadArg, 0},
		{"k ahead of the length", 5, long + "0", api.BadArg, 0},
		{"too long", 2, long + "0", api.TooBig, 0},
		{"the length ahead of the bytes", 2, "x" + long, api.TooBig, 0},
		{"the digit 2", 2, "0120", api.BadText, 2},
		{"a space", 2, "0 1", api.BadText, 1},
		{"the digit k", 3, "23", api.BadText, 1},
		{"the digit 1 for one symbol", 1, "001", api.BadText, 2},
		{"the digit 4", 4, "01234", api.BadText, 4},
		{"the byte ahead of the digits", 4, "3/", api.BadText, 1},
		{"the byte behind the digits", 4, ":", api.BadText, 0},
		{"a zero byte", 4, "0\x00", api.BadText, 1},
		{"a byte beyond 127", 4, "012\xb0", api.BadText, 3},
		{"a digit of another script", 4, "1\u0661", api.BadText, 1},
		{"a sign", 4, "-1", api.BadText, 0},
		{"a line's end", 4, "1\n", api.BadText, 1},
		{"the last byte", 4, long[1:] + "4", api.BadText, api.MaxWord - 1},
	} {
		w, err := word.Parse(x.k, x.s)
		wantFault(t, x.what, err, x.inner, x.at)
		if len(w) != 0 {
			t.Errorf("%s: %v beside an error", x.what, w)
		}
	}
}

// P3.6

// rotations are words that turn in all ways: with and without a period, and of any numbers.
func rotations() [][]int {
	words := append(upTo(2, 10), upTo(3, 6)...)
	return append(words,
		[]int{1, 2, 3}, []int{5, 5, 5}, []int{2, 1, 3, 1}, []int{math.MaxInt, math.MinInt}, []int{-1, 0, -1, 0},
		[]int{math.MaxInt, 0, math.MinInt, math.MaxInt, 0, math.MinInt}, mixed(2, 60, 3), mixed(3, 61, 4),
		slices.Repeat(mixed(2, 12, 5), 5), append(zeros(40), 1), append([]int{1}, zeros(40)...),
	)
}

// turned is the rotation of w by n, symbol by symbol.
func turned(w []int, n int) []int {
	v := make([]int, len(w))
	for i := range w {
		v[i] = w[(i+n)%len(w)]
	}
	return v
}

func TestBack(t *testing.T) {
	for _, w := range rotations() {
		back := word.Back(w)
		if len(back) != len(w) {
			t.Errorf("Back(%v): %v", w, back)
			continue
		}
		for i := range w {
			if back[i] != w[len(w)-1-i] {
				t.Errorf("Back(%v): %v", w, back)
			}
		}
	}
	if len(word.Back(nil)) != 0 {
		t.Error("Back of the empty word")
	}
}

func TestTurn(t *testing.T) {
	for _, w := range rotations() {
		n := len(w)
		for turn := range 2 * n {
			want := turned(w, turn)
			if got := word.Turn(w, turn); !slices.Equal(got, want) {
				t.Errorf("Turn(%v, %d): %v, want %v", w, turn, got, want)
			}
			if got := word.Turn(w, turn-2*n); !slices.Equal(got, want) {
				t.Errorf("Turn(%v, %d): %v, want %v", w, turn-2*n, got, want)
			}
		}
	}
}

func TestTurnByGreatNumbers(t *testing.T) {
	w := []int{1, 2, 3}
	// 2^63 is 2 modulo 3.
	for _, x := range []struct {
		n    int
		want []int
	}{
		{1, []int{2, 3, 1}}, {-1, []int{3, 1, 2}}, {-2, []int{2, 3, 1}}, {-3, w}, {300_000_000_001, []int{2, 3, 1}},
		{math.MaxInt, []int{2, 3, 1}}, {math.MinInt, []int{2, 3, 1}},
	} {
		if got := word.Turn(w, x.n); !slices.Equal(got, x.want) {
			t.Errorf("Turn(%v, %d): %v, want %v", w, x.n, got, x.want)
		}
	}
	for _, n := range []int{0, 1, -1, math.MaxInt, math.MinInt} {
		if got := word.Turn([]int{7}, n); !slices.Equal(got, []int{7}) {
			t.Errorf("Turn of one symbol by %d: %v", n, got)
		}
		if len(word.Turn(nil, n)) != 0 || len(word.Turn([]int{}, n)) != 0 {
			t.Errorf("Turn of the empty word by %d", n)
		}
	}
}

func TestLeast(t *testing.T) {
	for _, w := range rotations() {
		want := 0
		for turn := range w {
			if word.Cmp(turned(w, turn), turned(w, want)) < 0 {
				want = turn
			}
		}
		if got := word.Least(w); got != want {
			t.Errorf("Least(%v): %d, want %d", w, got, want)
		}
	}
	if word.Least(nil) != 0 || word.Least([]int{}) != 0 {
		t.Error("Least of the empty word")
	}
}

func TestPeriod(t *testing.T) {
	for _, w := range rotations() {
		want := 0
		for p := len(w); p >= 1; p-- {
			if len(w)%p == 0 && slices.Equal(turned(w, p), w) {
				want = p
			}
		}
		if got := word.Period(w); got != want {
			t.Errorf("Period(%v): %d, want %d", w, got, want)
		}
	}
	if word.Period(nil) != 0 || word.Period([]int{}) != 0 {
		t.Error("Period of the empty word")
	}
}

// Rings and rows hold far longer words than those that Check allows.
func TestLeastAndPeriodOfLongWords(t *testing.T) {
	const n = 1 << 20
	w := zeros(n)
	w[n-1] = 1
	if word.Least(w) != 0 || word.Period(w) != n {
		t.Error("zeros and a one")
	}
	slices.Reverse(w)
	if word.Least(w) != 1 || word.Period(w) != n {
		t.Error("a one and zeros")
	}
	w = append(slices.Repeat([]int{1}, n-1), 0)
	if word.Least(w) != n-1 || word.Period(w) != n {
		t.Error("ones and a zero")
	}
	if word.Least(zeros(n)) != 0 || word.Period(zeros(n)) != 1 {
		t.Error("zeros")
	}
	w = slices.Repeat(append([]int{1, 1}, zeros(1<<10-2)...), 1<<10)
	if word.Least(w) != 2 || word.Period(w) != 1<<10 {
		t.Error("a word of 1024 symbols again and again")
	}
}

// P3.7

func TestTimes(t *testing.T) {
	for _, w := range [][]int{{0, 1}, {7}, {-1, math.MaxInt, math.MinInt}, mixed(4, 100, 9)} {
		var want []int
		for n := range 20 {
			got, err := word.Times(w, n)
			wantWord(t, "n copies", got, err, want...)
			want = append(want, w...)
		}
	}
	got, err := word.Times(zeros(api.MaxWord+1), 0)
	wantWord(t, "no copy of a word that is too long", got, err)
}

func TestTimesOfTheEmptyWord(t *testing.T) {
	for _, n := range []int{0, 1, 2, api.MaxWord + 1, 1 << 62, math.MaxInt} {
		got, err := word.Times(nil, n)
		wantWord(t, "the empty word", got, err)
		got, err = word.Times([]int{}, n)
		wantWord(t, "the empty word", got, err)
	}
}

func TestTimesAtTheLimit(t *testing.T) {
	for _, x := range []struct{ length, n int }{{1, api.MaxWord}, {2, 2048}, {3, 1365}, {2048, 2}, {2730, 1}, {api.MaxWord, 1}} {
		got, err := word.Times(zeros(x.length), x.n)
		wantWord(t, "at the limit", got, err, zeros(x.length*x.n)...)
	}
	for _, x := range []struct{ length, n int }{
		{1, api.MaxWord + 1}, {2, 2049}, {3, 1366}, {2049, 2}, {api.MaxWord, 2}, {api.MaxWord + 1, 1},
		{1, math.MaxInt}, {2, 1 << 62}, {4, 1 << 62}, {4, 1<<62 + 1}, {4096, math.MaxInt}, {8192, 1 << 51},
	} {
		got, err := word.Times(zeros(x.length), x.n)
		wantFault(t, "beyond the limit", err, api.TooBig, 0)
		if len(got) != 0 {
			t.Error("a word beside an error")
		}
	}
	for _, n := range []int{-1, math.MinInt} {
		for _, w := range [][]int{nil, {0, 1}, zeros(api.MaxWord + 1)} {
			got, err := word.Times(w, n)
			wantFault(t, "a negative number of copies", err, api.BadArg, 0)
			if len(got) != 0 {
				t.Error("a word beside an error")
			}
		}
	}
}

// Rule 3

// guarded is w with spare capacity, which holds -77.
func guarded(w ...int) []int {
	room := slices.Repeat([]int{-77}, len(w)+8)
	copy(room, w)
	return room[:len(w)]
}

// intact tells whether w is still want, and its spare capacity is as guarded made it.
func intact(w []int, want ...int) bool {
	spare := w[len(w):cap(w)]
	return slices.Equal(w, want) && !slices.ContainsFunc(spare, func(x int) bool { return x != -77 })
}

// spoil overwrites a result with all of its memory.
func spoil(w []int) {
	w = w[:cap(w)]
	for i := range w {
		w[i] = -9
	}
}

func TestArgumentsStayAndResultsAreNew(t *testing.T) {
	calls := []struct {
		what string
		call func(w []int) []int
	}{
		{"Next", func(w []int) []int { v, _ := word.Next(2, w); return v }},
		{"Back", word.Back},
		{"Turn by 0", func(w []int) []int { return word.Turn(w, 0) }},
		{"Turn by 1", func(w []int) []int { return word.Turn(w, 1) }},
		{"Times 0", func(w []int) []int { v, _ := word.Times(w, 0); return v }},
		{"Times 1", func(w []int) []int { v, _ := word.Times(w, 1); return v }},
		{"Times 3", func(w []int) []int { v, _ := word.Times(w, 3); return v }},
		{"Check", func(w []int) []int { _ = word.Check(2, w); return nil }},
		{"Cmp", func(w []int) []int { word.Cmp(w, w); return nil }},
		{"Index", func(w []int) []int { _, _ = word.Index(2, w); return nil }},
		{"Text", func(w []int) []int { _, _ = word.Text(2, w); return nil }},
		{"Least", func(w []int) []int { word.Least(w); return nil }},
		{"Period", func(w []int) []int { word.Period(w); return nil }},
	}
	for _, x := range calls {
		for _, w := range [][]int{{}, {0}, {1}, {0, 1, 1}, {1, 1, 1}, {1, 0, 1, 0}} {
			arg := guarded(w...)
			first := x.call(arg)
			want := slices.Clone(first)
			if !intact(arg, w...) {
				t.Errorf("%s changes %v", x.what, w)
			}
			spoil(first)
			if !intact(arg, w...) {
				t.Errorf("%s of %v shares memory with its argument", x.what, w)
			}
			if again := x.call(arg); !slices.Equal(again, want) {
				t.Errorf("%s of %v is %v, and then %v", x.what, w, want, again)
			}
		}
	}
}

func TestAtKeepsItsArgument(t *testing.T) {
	for _, limbs := range []api.Nat{{5}, {5, 0}, {0}, {7, 9, 1}, {1, 1}} {
		room := append(slices.Clone(limbs), 77, 78)
		i := room[:len(limbs)]
		for _, n := range []int{0, 3, 70} {
			first, err := word.At(2, n, i)
			want := slices.Clone(first)
			spoil(first)
			if !slices.Equal(room, append(slices.Clone(limbs), 77, 78)) {
				t.Errorf("At changes %v", limbs)
			}
			again, other := word.At(2, n, i)
			if !slices.Equal(again, want) || fault.Code(err) != fault.Code(other) {
				t.Errorf("At(2, %d, %v) is %v, and then %v", n, limbs, want, again)
			}
		}
	}
}
