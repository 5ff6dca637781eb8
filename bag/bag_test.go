package bag_test

import (
	"math"
	"slices"
	"testing"

	"eden/api"
	"eden/bag"
)

// wantFault demands one Fault of bag with the number at, that wraps inner.
func wantFault(t *testing.T, what string, err, inner error, at int) {
	t.Helper()
	f, ok := err.(*api.Fault)
	if !ok || f.Op != "bag" || f.At != at || f.Err != inner {
		t.Errorf("%s: %v, want bag %d: %v", what, err, at, inner)
	}
}

// fresh is an empty bag for the numbers from 0 to n - 1.
func fresh(t *testing.T, n int) *bag.Bag {
	t.Helper()
	b, err := bag.New(n)
	if b == nil || err != nil {
		t.Fatalf("New(%d): %v, %v", n, b, err)
	}
	return b
}

// wantPut demands this answer of Put.
func wantPut(t *testing.T, b *bag.Bag, members []int, id int, added bool) {
	t.Helper()
	i, a, err := b.Put(members)
	if i != id || a != added || err != nil {
		t.Errorf("Put(%v): %d, %v, %v, want %d, %v", members, i, a, err, id, added)
	}
}

// wantNoPut demands this error of Put, and nothing beside it.
func wantNoPut(t *testing.T, what string, b *bag.Bag, members []int, inner error, at int) {
	t.Helper()
	id, added, err := b.Put(members)
	wantFault(t, what, err, inner, at)
	if id != 0 || added {
		t.Errorf("%s: %d, %v beside an error", what, id, added)
	}
}

// wantFind demands this answer of Find.
func wantFind(t *testing.T, b *bag.Bag, members []int, id int) {
	t.Helper()
	i, err := b.Find(members)
	if i != id || err != nil {
		t.Errorf("Find(%v): %d, %v, want %d", members, i, err, id)
	}
}

// wantNoFind demands this error of Find, and nothing beside it.
func wantNoFind(t *testing.T, what string, b *bag.Bag, members []int, inner error, at int) {
	t.Helper()
	id, err := b.Find(members)
	wantFault(t, what, err, inner, at)
	if id != 0 {
		t.Errorf("%s: %d beside an error", what, id)
	}
}

// wantGet demands this answer of Get.
func wantGet(t *testing.T, b *bag.Bag, id int, members ...int) {
	t.Helper()
	list, err := b.Get(id)
	if !slices.Equal(list, members) || err != nil {
		t.Errorf("Get(%d): %v, %v, want %v", id, list, err, members)
	}
}

// wantNoGet demands this error of Get and of Has, and nothing beside it.
func wantNoGet(t *testing.T, what string, b *bag.Bag, id int, inner error) {
	t.Helper()
	list, err := b.Get(id)
	wantFault(t, "Get, "+what, err, inner, 0)
	if len(list) != 0 {
		t.Errorf("Get, %s: %v beside an error", what, list)
	}
	for _, x := range []int{0, -1, math.MaxInt} {
		has, err := b.Has(id, x)
		wantFault(t, "Has, "+what, err, inner, 0)
		if has {
			t.Errorf("Has, %s: true beside an error", what)
		}
	}
}

// wantHas demands this answer of Has.
func wantHas(t *testing.T, b *bag.Bag, id, x int, want bool) {
	t.Helper()
	has, err := b.Has(id, x)
	if has != want || err != nil {
		t.Errorf("Has(%d, %d): %v, %v, want %v", id, x, has, err, want)
	}
}

// wantUnion demands this answer of Union.
func wantUnion(t *testing.T, b *bag.Bag, i, j, id int, added bool) {
	t.Helper()
	u, a, err := b.Union(i, j)
	if u != id || a != added || err != nil {
		t.Errorf("Union(%d, %d): %d, %v, %v, want %d, %v", i, j, u, a, err, id, added)
	}
}

// wantNoUnion demands this error of Union, and nothing beside it.
func wantNoUnion(t *testing.T, what string, b *bag.Bag, i, j int, inner error, at int) {
	t.Helper()
	id, added, err := b.Union(i, j)
	wantFault(t, what, err, inner, at)
	if id != 0 || added {
		t.Errorf("%s: %d, %v beside an error", what, id, added)
	}
}

// wantLen demands this number of sets.
func wantLen(t *testing.T, b *bag.Bag, want int) {
	t.Helper()
	if n := b.Len(); n != want {
		t.Errorf("Len: %d, want %d", n, want)
	}
}

// wantSets demands that the bag has exactly these sets, each of which is given by its members in increasing order.
func wantSets(t *testing.T, b *bag.Bag, sets [][]int) {
	t.Helper()
	wantLen(t, b, len(sets))
	for id, members := range sets {
		wantGet(t, b, id, members...)
		wantFind(t, b, members, id)
	}
	wantNoGet(t, "behind the last set", b, len(sets), api.BadArg)
}

// mixed are n numbers below size that look like chance, the same for the same seed.
func mixed(size, n int, seed uint64) []int {
	list := make([]int, n)
	for i := range list {
		seed = seed*6364136223846793005 + 1442695040888963407
		list[i] = int(seed >> 33 % uint64(size))
	}
	return list
}

// set is the set of a list: its elements in increasing order, each once.
func set(list []int) []int {
	list = slices.Clone(list)
	slices.Sort(list)
	return slices.Compact(list)
}

// place is the index of a set in a list of sets, or -1.
func place(sets [][]int, members []int) int {
	return slices.IndexFunc(sets, func(s []int) bool { return slices.Equal(s, members) })
}

// binary are the places of the bits of x that are 1.
func binary(x int) []int {
	var list []int
	for i := range 63 {
		if x>>i&1 == 1 {
			list = append(list, i)
		}
	}
	return list
}

// sizes are numbers for New, at the ends of bytes and of words of bits too.
var sizes = []int{1, 2, 3, 7, 8, 9, 15, 16, 17, 31, 32, 33, 63, 64, 65, 127, 128, 129, 256, 1000, 8191, 8192}

// outside are numbers that no set of the numbers from 0 to n - 1 contains.
func outside(n int) []int {
	return []int{-1, -2, -7, -8, -9, -64, n, n + 1, n + 7, n + 8, n + 64, math.MinInt, math.MaxInt, 1<<32 + n, 1 << 32, -1 << 32}
}

// The examples

func TestExamples(t *testing.T) {
	b := fresh(t, 5)
	wantPut(t, b, []int{3, 1}, 0, true)
	wantPut(t, b, []int{1, 3, 3}, 0, false)
	wantPut(t, b, nil, 1, true)
	wantGet(t, b, 0, 1, 3)
	wantGet(t, b, 1)
	wantNoGet(t, "two sets", b, 2, api.BadArg)
	wantNoPut(t, "4 5", b, []int{4, 5}, api.BadArg, 1)
	wantFind(t, b, []int{4}, -1)
	wantFind(t, b, []int{3, 1}, 0)
	wantPut(t, b, []int{0, 1}, 2, true)
	wantUnion(t, b, 0, 2, 3, true)
	wantGet(t, b, 3, 0, 1, 3)
	wantUnion(t, b, 2, 0, 3, false)
	wantNoUnion(t, "0, 9", b, 0, 9, api.BadArg, 1)
	wantHas(t, b, 3, 0, true)
	wantHas(t, b, 3, 2, false)
	wantHas(t, b, 3, -7, false)
	wantLen(t, b, 4)
}

// P9.1

func TestNew(t *testing.T) {
	for _, n := range append([]int{0}, sizes...) {
		b := fresh(t, n)
		wantSets(t, b, nil)
		wantFind(t, b, nil, -1)
		if n > 0 {
			wantFind(t, b, []int{n - 1}, -1)
			wantPut(t, b, []int{n - 1}, 0, true)
			wantSets(t, b, [][]int{{n - 1}})
		}
		for _, x := range outside(n) {
			wantNoPut(t, "outside", b, []int{x}, api.BadArg, 0)
		}
	}
}

func TestNewOfWrongNumbers(t *testing.T) {
	for _, x := range []struct {
		n     int
		inner error
	}{
		{-1, api.BadArg}, {-2, api.BadArg}, {-8193, api.BadArg}, {math.MinInt, api.BadArg},
		{8193, api.TooBig}, {1 << 32, api.TooBig}, {math.MaxInt, api.TooBig},
	} {
		b, err := bag.New(x.n)
		wantFault(t, "New", err, x.inner, 0)
		if b != nil {
			t.Errorf("New(%d): a bag beside an error", x.n)
		}
	}
}

func TestBagOfNoNumbers(t *testing.T) {
	b := fresh(t, 0)
	wantPut(t, b, []int{}, 0, true)
	wantPut(t, b, nil, 0, false)
	wantUnion(t, b, 0, 0, 0, false)
	wantHas(t, b, 0, 0, false)
	wantSets(t, b, [][]int{nil})
}

// P9.2

func TestPut(t *testing.T) {
	for _, size := range sizes {
		b := fresh(t, size)
		var sets [][]int
		for seed := range uint64(120) {
			// The lists are short, so that in small bags sets come again.
			list := mixed(size, int(seed%7), seed)
			want := place(sets, set(list))
			added := want < 0
			if added {
				want = len(sets)
				sets = append(sets, set(list))
			}
			wantPut(t, b, list, want, added)
			wantPut(t, b, list, want, false)
			slices.Reverse(list)
			wantPut(t, b, slices.Concat(list, list[:len(list)/2]), want, false)
			wantLen(t, b, len(sets))
		}
		wantSets(t, b, sets)
	}
}

func TestPutOfAllSetsOfEightNumbers(t *testing.T) {
	for first := range 8 {
		b := fresh(t, 8+first)
		var sets [][]int
		for x := range 256 {
			members := binary(x << first)
			wantPut(t, b, members, x, true)
			sets = append(sets, members)
		}
		wantSets(t, b, sets)
	}
}

func TestPutOfSingleNumbersAndOfAll(t *testing.T) {
	for _, size := range sizes {
		b := fresh(t, size)
		all := make([]int, size)
		for x := range all {
			all[x] = x
		}
		for id := range min(size, api.MaxSubsets-2) {
			wantPut(t, b, []int{size - 1 - id}, id, true)
		}
		n := b.Len()
		wantPut(t, b, nil, n, true)
		added := size > 1
		full := 0
		if added {
			full = n + 1
		}
		wantPut(t, b, all, full, added)
		slices.Reverse(all)
		wantPut(t, b, append(all, all...), full, false)
		wantFind(t, b, []int{size - 1}, 0)
	}
}

func TestPutOfNumbersOutside(t *testing.T) {
	for _, size := range sizes {
		b := fresh(t, size)
		wantPut(t, b, []int{0}, 0, true)
		for _, x := range outside(size) {
			for at := range 12 {
				list := mixed(size, 12, uint64(at))
				list[at] = x
				wantNoPut(t, "outside", b, list, api.BadArg, at)
				wantNoFind(t, "outside", b, list, api.BadArg, at)
				list[11] = -3
				wantNoPut(t, "two outside", b, list, api.BadArg, at)
				wantNoFind(t, "two outside", b, list, api.BadArg, at)
			}
		}
		wantSets(t, b, [][]int{{0}})
	}
}

// filled is a bag of 8192 numbers with MaxSubsets sets: set number x has the places of the bits of x, raised by 4000, as members.
func filled(t *testing.T) (*bag.Bag, [][]int) {
	t.Helper()
	b := fresh(t, api.MaxVertex)
	var sets [][]int
	for x := range api.MaxSubsets {
		members := binary(x)
		for i := range members {
			members[i] += 4000
		}
		wantPut(t, b, members, x, true)
		sets = append(sets, members)
	}
	return b, sets
}

func TestPutIntoAFullBag(t *testing.T) {
	b, sets := filled(t)
	for _, list := range [][]int{{0}, {8191}, {3999}, {4012}, {4000, 4012}, {0, 8191}} {
		wantNoPut(t, "full", b, list, api.TooBig, 0)
		wantFind(t, b, list, -1)
	}
	wantNoPut(t, "full, and a number outside", b, []int{0, 1, 8192}, api.BadArg, 2)
	wantPut(t, b, nil, 0, false)
	wantPut(t, b, []int{4000, 4000}, 1, false)
	wantPut(t, b, []int{4011, 4000}, 2049, false)
	wantSets(t, b, sets)
}

func TestLastSetOfABag(t *testing.T) {
	b := fresh(t, 8192)
	for x := range api.MaxSubsets - 1 {
		wantPut(t, b, []int{x}, x, true)
	}
	wantUnion(t, b, 0, 1, 4095, true)
	wantNoUnion(t, "full", b, 0, 2, api.TooBig, 0)
	wantLen(t, b, api.MaxSubsets)
}

// P9.2, P9.3, P9.4, P9.5: a nil bag

func TestNilBag(t *testing.T) {
	var b *bag.Bag
	for _, list := range [][]int{nil, {}, {0}, {-1}, {0, math.MaxInt}} {
		wantNoPut(t, "Put, nil bag", b, list, api.BadState, 0)
		wantNoFind(t, "Find, nil bag", b, list, api.BadState, 0)
	}
	for _, i := range []int{0, 1, -1, math.MinInt, math.MaxInt} {
		wantNoGet(t, "nil bag", b, i, api.BadState)
		wantNoUnion(t, "Union, nil bag", b, i, 0, api.BadState, 0)
		wantNoUnion(t, "Union, nil bag", b, 0, i, api.BadState, 0)
	}
	wantLen(t, b, 0)
}

// P9.3

func TestFind(t *testing.T) {
	for _, size := range sizes {
		b := fresh(t, size)
		var sets [][]int
		for seed := range uint64(60) {
			list := mixed(size, 1+int(seed%5), seed)
			wantFind(t, b, list, place(sets, set(list)))
			// To look for a set does not add it.
			wantLen(t, b, len(sets))
			if seed%2 == 0 {
				continue
			}
			if place(sets, set(list)) < 0 {
				sets = append(sets, set(list))
			}
			wantPut(t, b, list, place(sets, set(list)), len(sets) > b.Len())
			slices.Reverse(list)
			wantFind(t, b, append(list, list[0]), place(sets, set(list)))
		}
		wantSets(t, b, sets)
	}
}

func TestGetAndHas(t *testing.T) {
	for _, size := range sizes {
		b := fresh(t, size)
		for seed := range uint64(20) {
			list := mixed(size, 3*int(seed), seed)
			id, _, err := b.Put(list)
			if err != nil {
				t.Fatal(err)
			}
			members := set(list)
			wantGet(t, b, id, members...)
			for x := range min(size, 300) {
				_, want := slices.BinarySearch(members, x)
				wantHas(t, b, id, x, want)
			}
			for _, x := range members {
				wantHas(t, b, id, x, true)
			}
			for _, x := range outside(size) {
				wantHas(t, b, id, x, false)
			}
		}
	}
}

func TestGetAndHasOfNoSet(t *testing.T) {
	b := fresh(t, 9)
	for _, id := range []int{0, 1, -1} {
		wantNoGet(t, "empty bag", b, id, api.BadArg)
	}
	wantPut(t, b, []int{0, 8}, 0, true)
	wantPut(t, b, nil, 1, true)
	for _, id := range []int{-1, 2, 3, 9, 4096, 1 << 32, math.MinInt, math.MaxInt} {
		wantNoGet(t, "two sets", b, id, api.BadArg)
	}
	wantSets(t, b, [][]int{{0, 8}, nil})
}

// P9.4

func TestUnion(t *testing.T) {
	for _, size := range sizes {
		b := fresh(t, size)
		var sets [][]int
		for seed := range uint64(12) {
			list := mixed(size, int(seed), seed)
			if place(sets, set(list)) < 0 {
				sets = append(sets, set(list))
			}
			wantPut(t, b, list, place(sets, set(list)), len(sets) > b.Len())
		}
		for i := range len(sets) {
			for j := range len(sets) {
				both := set(slices.Concat(sets[i], sets[j]))
				want := place(sets, both)
				added := want < 0
				if added {
					want = len(sets)
					sets = append(sets, both)
				}
				wantUnion(t, b, i, j, want, added)
				wantUnion(t, b, j, i, want, false)
				wantUnion(t, b, want, i, want, false)
				wantPut(t, b, slices.Concat(sets[j], sets[i]), want, false)
			}
		}
		wantSets(t, b, sets)
	}
}

func TestUnionOfNoSets(t *testing.T) {
	b := fresh(t, 5)
	wantNoUnion(t, "empty bag", b, 0, 0, api.BadArg, 0)
	wantPut(t, b, []int{1}, 0, true)
	wantPut(t, b, []int{2}, 1, true)
	for _, x := range []int{-1, 2, 3, 1 << 32, math.MinInt, math.MaxInt} {
		wantNoUnion(t, "no set i", b, x, 0, api.BadArg, 0)
		wantNoUnion(t, "no set i, no set j", b, x, -1, api.BadArg, 0)
		wantNoUnion(t, "no set j", b, 0, x, api.BadArg, 1)
		wantNoUnion(t, "no set j", b, 1, x, api.BadArg, 1)
	}
	wantSets(t, b, [][]int{{1}, {2}})
}

func TestUnionInAFullBag(t *testing.T) {
	b := fresh(t, 8192)
	var sets [][]int
	for x := range api.MaxSubsets - 1 {
		wantPut(t, b, []int{2 * x}, x, true)
		sets = append(sets, []int{2 * x})
	}
	wantUnion(t, b, 4000, 2, 4095, true)
	sets = append(sets, []int{4, 8000})
	wantUnion(t, b, 7, 7, 7, false)
	wantUnion(t, b, 2, 4095, 4095, false)
	wantUnion(t, b, 2, 4000, 4095, false)
	wantNoUnion(t, "full", b, 4095, 3, api.TooBig, 0)
	wantNoUnion(t, "full, no set i", b, 4096, 3, api.BadArg, 0)
	wantNoUnion(t, "full, no set j", b, 3, 4096, api.BadArg, 1)
	wantSets(t, b, sets)
}

// P9.5

func TestLen(t *testing.T) {
	b := fresh(t, 8192)
	for x := range api.MaxSubsets {
		wantLen(t, b, x)
		wantPut(t, b, []int{x, 8191}, x, true)
	}
	wantLen(t, b, api.MaxSubsets)
	wantNoPut(t, "full", b, nil, api.TooBig, 0)
	wantLen(t, b, api.MaxSubsets)
}

// P9.6

// guarded is a list with spare capacity, which holds -77.
func guarded(list []int) []int {
	room := slices.Repeat([]int{-77}, len(list)+8)
	copy(room, list)
	return room[:len(list)]
}

// spoil overwrites a list with all of its memory.
func spoil(list []int) {
	list = list[:cap(list)]
	for i := range list {
		list[i] = 2
	}
}

func TestArgumentsStay(t *testing.T) {
	b := fresh(t, 40)
	for seed := range uint64(20) {
		list := mixed(40, int(seed), seed)
		for _, x := range [][]int{list, append(list, 40), append(list, -1)} {
			arg := guarded(x)
			want := slices.Clone(arg[:cap(arg)])
			_, _, _ = b.Put(arg)
			_, _ = b.Find(arg)
			if !slices.Equal(arg[:cap(arg)], want) {
				t.Errorf("%v: an argument has changed", x)
			}
		}
	}
}

func TestNothingIsRetained(t *testing.T) {
	b := fresh(t, 40)
	var sets [][]int
	for seed := range uint64(30) {
		members := set(append(mixed(39, int(seed), seed), 39))
		if place(sets, members) < 0 {
			sets = append(sets, members)
		}
	}
	for id, members := range sets {
		arg := guarded(members)
		wantPut(t, b, arg, id, true)
		spoil(arg)
		wantGet(t, b, id, members...)
	}
	for id, members := range sets {
		first, _ := b.Get(id)
		second, _ := b.Get(id)
		spoil(first)
		if !slices.Equal(second, members) {
			t.Errorf("set %d: two results share memory", id)
		}
	}
	wantSets(t, b, sets)
}

func TestBagsAreApart(t *testing.T) {
	a, b := fresh(t, 30), fresh(t, 30)
	for seed := range uint64(40) {
		list := mixed(30, int(seed%4), seed)
		id, added, err := a.Put(list)
		_, _ = b.Find(list)
		wantLen(t, b, 0)
		if err != nil {
			t.Fatal(id, added, err)
		}
	}
	// The same calls on another bag give the same results.
	for seed := range uint64(40) {
		list := mixed(30, int(seed%4), seed)
		want, _ := a.Find(list)
		wantPut(t, b, list, want, want == b.Len())
	}
	wantLen(t, b, a.Len())
}
