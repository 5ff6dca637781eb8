package fault_test

import (
	"errors"
	"fmt"
	"math"
	"slices"
	"testing"

	"eden/api"
	"eden/fault"
)

// coded is an error of api with its number.
type coded struct {
	n   api.Errno
	err error
}

func codes() []coded {
	return []coded{
		{1, api.BadRule}, {2, api.BadWord}, {3, api.BadArg}, {4, api.TooBig}, {5, api.NoBudget}, {6, api.BadText},
		{7, api.BadPatch}, {8, api.BadCert}, {9, api.NoInverse}, {10, api.BadLine}, {11, api.BadState},
	}
}

// numberless are numbers that no error has, but for 99, which api.Unknown has.
func numberless() []api.Errno {
	return []api.Errno{math.MinInt, -99, -11, -1, 12, 13, 77, 98, 99, 100, 256, 257, math.MaxInt}
}

// several is an error that wraps several errors; it can't be compared.
type several []error

func (s several) Error() string   { return "several" }
func (s several) Unwrap() []error { return s }

// alike is an error that says by its own Is that it is target.
type alike struct{ target error }

func (a alike) Error() string        { return "alike" }
func (a alike) Is(target error) bool { return target == a.target }

// giver is an error that hands out a Fault by its own As.
type giver struct{ f *api.Fault }

func (g giver) Error() string { return "giver" }
func (g giver) As(target any) bool {
	if p, ok := target.(**api.Fault); ok {
		*p = g.f
		return true
	}
	return false
}

// wild is an error whose methods panic.
type wild struct{}

func (wild) Error() string { panic("Error") }
func (wild) Unwrap() error { panic("Unwrap") }

// halfGiver is an error whose As hands out a Fault and panics then.
type halfGiver struct{ f *api.Fault }

func (halfGiver) Error() string { return "half" }
func (h halfGiver) As(target any) bool {
	if p, ok := target.(**api.Fault); ok {
		*p = h.f
	}
	panic("As")
}

// link is an error of another type whose pointer may be nil; Unwrap panics then.
type link struct{ next error }

func (*link) Error() string   { return "link" }
func (l *link) Unwrap() error { return l.next }

// asFault demands that err itself is a Fault.
func asFault(t *testing.T, err error) *api.Fault {
	t.Helper()
	f, ok := err.(*api.Fault)
	if !ok || f == nil {
		t.Fatalf("%#v is no Fault", err)
	}
	return f
}

// wantPlaces demands what Outer and Inner return.
func wantPlaces(t *testing.T, err error, outer string, outerAt int, inner string, innerAt int) {
	t.Helper()
	if op, at, ok := fault.Outer(err); op != outer || at != outerAt || !ok {
		t.Errorf("Outer: %q %d %v, want %q %d", op, at, ok, outer, outerAt)
	}
	if op, at, ok := fault.Inner(err); op != inner || at != innerAt || !ok {
		t.Errorf("Inner: %q %d %v, want %q %d", op, at, ok, inner, innerAt)
	}
}

// wantTrail demands what Trail and Deep return.
func wantTrail(t *testing.T, err error, ops ...string) {
	t.Helper()
	if got := fault.Trail(err); !slices.Equal(got, ops) {
		t.Errorf("Trail: %q, want %q", got, ops)
	}
	if got := fault.Deep(err); got != len(ops) {
		t.Errorf("Deep: %d, want %d", got, len(ops))
	}
}

// wantNone demands that err has no Fault.
func wantNone(t *testing.T, err error) {
	t.Helper()
	if op, at, ok := fault.Outer(err); op != "" || at != 0 || ok {
		t.Errorf("Outer: %q %d %v, want none", op, at, ok)
	}
	if op, at, ok := fault.Inner(err); op != "" || at != 0 || ok {
		t.Errorf("Inner: %q %d %v, want none", op, at, ok)
	}
	wantTrail(t, err)
}

// wantCode demands what Code returns.
func wantCode(t *testing.T, err error, n api.Errno) {
	t.Helper()
	if got := fault.Code(err); got != n {
		t.Errorf("Code: %d, want %d", got, n)
	}
}

func TestNewOfOK(t *testing.T) { // P1.1
	for _, at := range []int{math.MinInt, -1, 0, 1, math.MaxInt} {
		for _, op := range []string{"", "rule"} {
			if err := fault.New(op, at, api.OK); err != nil {
				t.Errorf("New(%q, %d, OK): %#v", op, at, err)
			}
		}
	}
}

func TestNewWrapsTheNumberedError(t *testing.T) { // P1.1
	for _, c := range codes() {
		f := asFault(t, fault.New("rule", 3, c.n))
		if f.Op != "rule" || f.At != 3 || f.Err != c.err {
			t.Errorf("New of %d: %q %d %v", c.n, f.Op, f.At, f.Err)
		}
		if want := "rule 3: " + c.err.Error(); f.Error() != want {
			t.Errorf("text of %d: %q, want %q", c.n, f.Error(), want)
		}
	}
}

func TestNewOfNumbersThatNoErrorHas(t *testing.T) { // P1.1
	for _, n := range numberless() {
		f := asFault(t, fault.New("x", 1, n))
		if f.Op != "x" || f.At != 1 || f.Err != api.Unknown {
			t.Errorf("New of %d: %q %d %v", n, f.Op, f.At, f.Err)
		}
		wantCode(t, f, api.ErrUnknown)
	}
}

func TestNewKeepsAnyPlace(t *testing.T) { // P1.1
	for _, at := range []int{math.MinInt, -1, 0, 1, math.MaxInt} {
		for _, op := range []string{"", "rule", "a b: \x00\xff\n"} {
			if f := asFault(t, fault.New(op, at, api.ErrArg)); f.Op != op || f.At != at {
				t.Errorf("New(%q, %d): %q %d", op, at, f.Op, f.At)
			}
		}
	}
}

func TestNewIsNewEachTime(t *testing.T) { // P1.1
	a, b := asFault(t, fault.New("x", 1, api.ErrBig)), asFault(t, fault.New("x", 1, api.ErrBig))
	if a == b {
		t.Error("two calls return one Fault")
	}
	a.Op, a.At, a.Err = "y", 2, nil
	if b.Op != "x" || b.At != 1 || b.Err != api.TooBig {
		t.Errorf("a change of one Fault changes another: %v", b)
	}
}

func TestUnderNil(t *testing.T) { // P1.2
	for _, op := range []string{"", "a"} {
		if err := fault.Under(op, 5, nil); err != nil {
			t.Errorf("Under(%q, 5, nil): %#v", op, err)
		}
	}
	if err := fault.Under("a", 5, fault.New("b", 1, api.OK)); err != nil {
		t.Errorf("Under of New of OK: %#v", err)
	}
}

func TestUnderWrapsTheErrorItself(t *testing.T) { // P1.2
	list := []error{fault.New("rule", 2, api.ErrRule), errors.New("else"), api.Unknown, api.BadText, &link{}, alike{api.BadRule}, wild{}}
	for i, err := range list {
		for _, at := range []int{math.MinInt, 0, 7, math.MaxInt} {
			f := asFault(t, fault.Under("inject", at, err))
			if f.Op != "inject" || f.At != at || f.Err != err {
				t.Errorf("Under of error %d: %q %d", i, f.Op, f.At)
			}
		}
	}
	s := several{api.BadRule}
	if got, ok := asFault(t, fault.Under("", 0, s)).Err.(several); !ok || &got[0] != &s[0] {
		t.Error("Under wraps another error than the one passed")
	}
}

func TestUnderIsNewEachTime(t *testing.T) { // P1.2
	in := asFault(t, fault.New("x", 1, api.ErrBig))
	a, b := asFault(t, fault.Under("y", 2, in)), asFault(t, fault.Under("y", 2, in))
	if a == b || a == in {
		t.Error("Under returns a Fault that was there before")
	}
	if in.Op != "x" || in.At != 1 || in.Err != api.TooBig {
		t.Errorf("Under changes what it wraps: %v", in)
	}
}

func TestCodeOfEachError(t *testing.T) { // P1.3
	wantCode(t, nil, api.OK)
	for _, c := range codes() {
		wantCode(t, c.err, c.n)
		wantCode(t, fault.New("x", 0, c.n), c.n)
		wantCode(t, fault.Under("y", 1, fault.Under("x", 0, c.err)), c.n)
		wantCode(t, fmt.Errorf("else: %w", fault.New("x", 0, c.n)), c.n)
		wantCode(t, alike{c.err}, c.n)
		wantCode(t, several{nil, errors.New("else"), &link{c.err}}, c.n)
	}
}

func TestCodeIsTheLeast(t *testing.T) { // P1.3
	for _, a := range codes() {
		for _, b := range codes() {
			wantCode(t, errors.Join(fault.New("a", 1, a.n), b.err), min(a.n, b.n))
			wantCode(t, fault.Under("c", 3, several{api.Unknown, a.err, fault.New("b", 2, b.n)}), min(a.n, b.n))
		}
	}
}

func TestCodeUnknown(t *testing.T) { // P1.3
	list := []error{
		errors.New("else"), errors.New("bad rule"), api.Unknown, fault.New("x", 1, api.ErrUnknown), fault.Under("a", 5, errors.New("else")),
		&api.Fault{}, &api.Fault{Op: "bad rule"}, several{}, several(nil), several{nil}, errors.Join(api.Unknown, errors.New("else")), &link{}, wild{}, (*link)(nil),
	}
	for _, err := range list {
		wantCode(t, err, api.ErrUnknown)
	}
}

func TestPlacesWhereThereAreNone(t *testing.T) { // P1.4, P1.5
	list := []error{
		nil, errors.New("else"), api.BadRule, api.Unknown, several{}, several{nil, api.BadWord}, fmt.Errorf("else: %w", api.BadArg),
		alike{api.BadRule}, giver{nil}, wild{}, (*link)(nil), halfGiver{&api.Fault{Op: "a"}},
	}
	for _, err := range list {
		wantNone(t, err)
	}
}

func TestPlacesOfOne(t *testing.T) { // P1.4, P1.5
	for _, at := range []int{math.MinInt, -1, 0, 3, math.MaxInt} {
		for _, op := range []string{"", "rule"} {
			e := fault.New(op, at, api.ErrRule)
			wantPlaces(t, e, op, at, op, at)
			wantTrail(t, e, op)
		}
	}
	e := error(&api.Fault{})
	wantPlaces(t, e, "", 0, "", 0)
	wantTrail(t, e, "")
	e = fault.Under("a", 5, errors.New("else"))
	wantPlaces(t, e, "a", 5, "a", 5)
	wantTrail(t, e, "a")
}

func TestPlacesOfSome(t *testing.T) { // P1.4, P1.5
	e := fault.Under("inject", 0, fault.Under("pairs", -4, fault.New("rule", 2, api.ErrRule)))
	wantPlaces(t, e, "inject", 0, "rule", 2)
	wantTrail(t, e, "inject", "pairs", "rule")
	e = fault.Under("a", 1, fault.Under("a", 1, fault.New("a", 2, api.ErrRule)))
	wantPlaces(t, e, "a", 1, "a", 2)
	wantTrail(t, e, "a", "a", "a")
}

func TestFaultsBetweenOtherErrors(t *testing.T) { // P1.4, P1.5
	e := fault.New("c", 3, api.ErrBig)
	e = fault.Under("b", 2, fmt.Errorf("else: %w", &link{e}))
	e = &link{fault.Under("a", 1, several{errors.New("else"), e})}
	wantPlaces(t, e, "a", 1, "c", 3)
	wantTrail(t, e, "a", "b", "c")
	wantCode(t, e, api.ErrBig)
}

func TestFaultsOfSeveral(t *testing.T) { // P1.4, P1.5
	a, b := fault.Under("a", 1, api.BadText), fault.New("b", 2, api.ErrWord)
	for _, e := range []error{several{a, b}, errors.Join(a, b), fmt.Errorf("%w, %w", a, b), several{api.BadRule, several{}, several{a}, b}} {
		wantPlaces(t, e, "a", 1, "a", 1)
		wantTrail(t, e, "a")
	}
	wantCode(t, several{a, b}, api.ErrWord)
	deep := several{fault.Under("c", 3, several{errors.New("else"), several{a}, b}), fault.Under("d", 4, b)}
	wantPlaces(t, deep, "c", 3, "a", 1)
	wantTrail(t, deep, "c", "a")
}

func TestFaultsThatAnErrorHandsOut(t *testing.T) { // P1.4, P1.5
	in := &api.Fault{Op: "in", At: 8, Err: api.BadCert}
	e := fault.Under("out", 9, giver{in})
	wantPlaces(t, e, "out", 9, "in", 8)
	wantTrail(t, e, "out", "in")
}

func TestErrorsThatPanic(t *testing.T) { // P1.3 to P1.5: no call panics
	e := fault.Under("b", 2, fault.Under("a", 1, wild{}))
	wantCode(t, e, api.ErrUnknown)
	wantPlaces(t, e, "b", 2, "a", 1)
	wantTrail(t, e, "b", "a")
	e = several{fault.New("c", 3, api.ErrWord), wild{}}
	wantCode(t, e, api.ErrWord)
	wantPlaces(t, e, "c", 3, "c", 3)
	wantTrail(t, e, "c")
}

func TestTrailIsNewMemory(t *testing.T) { // P1.5
	e := fault.Under("a", 1, fault.New("b", 2, api.ErrArg))
	x, y := fault.Trail(e), fault.Trail(e)
	x[0], x[1] = "x", "x"
	x = append(x[:1], "y", "z")
	if !slices.Equal(y, []string{"a", "b"}) {
		t.Errorf("two trails share memory: %q, %q", x, y)
	}
	wantTrail(t, e, "a", "b")
}

func TestDeepNesting(t *testing.T) { // P1.3 to P1.5
	const levels = 1 << 16
	e := fault.New("0", 0, api.ErrState)
	for i := 1; i < levels; i++ {
		e = fault.Under("x", i, e)
	}
	wantCode(t, e, api.ErrState)
	wantPlaces(t, e, "x", levels-1, "0", 0)
	if ops := fault.Trail(e); len(ops) != levels || fault.Deep(e) != levels || ops[levels-1] != "0" || ops[0] != "x" {
		t.Errorf("Trail has %d, Deep is %d", len(ops), fault.Deep(e))
	}
}

func TestIs(t *testing.T) { // P1.6
	for _, c := range codes() {
		in := fault.New("rule", 3, c.n)
		out := fault.Under("inject", 0, in)
		for _, other := range codes() {
			if got := errors.Is(in, other.err); got != (c.n == other.n) {
				t.Errorf("New of %d is %v: %v", c.n, other.err, got)
			}
			if got := errors.Is(out, other.err); got != (c.n == other.n) {
				t.Errorf("Under of %d is %v: %v", c.n, other.err, got)
			}
		}
		if errors.Is(out, api.Unknown) || !errors.Is(out, in) || !errors.Is(out, out) || errors.Is(in, out) {
			t.Errorf("Is of %d", c.n)
		}
	}
	if !errors.Is(fault.New("x", 1, 77), api.Unknown) || !errors.Is(fault.Under("y", 2, fault.New("x", 1, -1)), api.Unknown) {
		t.Error("Is finds no Unknown")
	}
}

func TestAs(t *testing.T) { // P1.6
	own := &link{}
	out := fault.Under("b", 2, fault.Under("a", 1, own))
	var f *api.Fault
	if !errors.As(out, &f) || error(f) != out {
		t.Errorf("As finds another Fault: %v", f)
	}
	if !errors.As(fmt.Errorf("else: %w", out), &f) || error(f) != out {
		t.Errorf("As finds another Fault behind another error: %v", f)
	}
	var l *link
	if !errors.As(out, &l) || l != own {
		t.Error("As doesn't find an error of another type behind Faults")
	}
	var s several
	if errors.As(out, &s) {
		t.Error("As finds what is not there")
	}
}

func TestUnwrap(t *testing.T) { // P1.6
	for _, c := range codes() {
		in := fault.New("rule", 3, c.n)
		if got := errors.Unwrap(in); got != c.err {
			t.Errorf("Unwrap of New of %d: %v", c.n, got)
		}
		if got := errors.Unwrap(fault.Under("inject", 0, in)); got != in {
			t.Errorf("Unwrap of Under of %d: %v", c.n, got)
		}
	}
}

func TestTexts(t *testing.T) { // P1.1, P1.2: what the given Error method makes of the fields
	e := fault.Under("inject", 0, fault.Under("pairs", 0, fault.New("rule", 0, api.ErrRule)))
	if e.Error() != "inject 0: pairs 0: rule 0: bad rule" {
		t.Errorf("text: %q", e.Error())
	}
	if e = fault.New("x", -7, 77); e.Error() != "x -7: unknown" {
		t.Errorf("text: %q", e.Error())
	}
}
