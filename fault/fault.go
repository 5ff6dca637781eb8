// Package fault is layer 1: it creates and inspects errors that wrap one another, with a trail of packages. See shared/doc/01-fault.md.
package fault

import (
	"errors"

	"eden/api"
)

// New returns a new Fault that wraps api's error with the number n, or nil if n is OK.
func New(op string, at int, n api.Errno) error {
	if n == api.OK {
		return nil
	}
	return &api.Fault{Op: op, At: at, Err: numbered(n)}
}

// Under returns a new Fault that wraps err, or nil if err is nil.
func Under(op string, at int, err error) error {
	if err == nil {
		return nil
	}
	return &api.Fault{Op: op, At: at, Err: err}
}

// Code returns the least number whose error is found in err, ErrUnknown if there is none, and OK for nil.
func Code(err error) api.Errno {
	if err == nil {
		return api.OK
	}
	for n := api.ErrRule; n <= api.ErrState; n++ {
		if holds(err, numbered(n)) {
			return n
		}
	}
	return api.ErrUnknown
}

// Outer returns the Op and the At of the first Fault of err, and whether there is one.
func Outer(err error) (string, int, bool) {
	return place(first(err))
}

// Inner returns the Op and the At of the last Fault of err, and whether there is one.
func Inner(err error) (string, int, bool) {
	var last *api.Fault
	for _, f := range all(err) {
		last = f
	}
	return place(last)
}

// Trail returns the Ops of all Faults of err, from the outermost on.
func Trail(err error) []string {
	var ops []string
	for _, f := range all(err) {
		ops = append(ops, f.Op)
	}
	return ops
}

// Deep returns the number of Faults of err.
func Deep(err error) int {
	return len(all(err))
}

// numbered returns api's error with the number n, or api.Unknown if no error has this number.
func numbered(n api.Errno) error {
	switch n {
	case api.ErrRule:
		return api.BadRule
	case api.ErrWord:
		return api.BadWord
	case api.ErrArg:
		return api.BadArg
	case api.ErrBig:
		return api.TooBig
	case api.ErrBudget:
		return api.NoBudget
	case api.ErrText:
		return api.BadText
	case api.ErrPatch:
		return api.BadPatch
	case api.ErrCert:
		return api.BadCert
	case api.ErrInverse:
		return api.NoInverse
	case api.ErrLine:
		return api.BadLine
	case api.ErrState:
		return api.BadState
	}
	return api.Unknown
}

// all returns the Faults of err, from the outermost on.
func all(err error) []*api.Fault {
	var faults []*api.Fault
	for f := first(err); f != nil; f = first(f.Err) {
		faults = append(faults, f)
	}
	return faults
}

// place returns what Outer and Inner tell of a Fault, which is nil if there is none.
func place(f *api.Fault) (string, int, bool) {
	if f == nil {
		return "", 0, false
	}
	return f.Op, f.At, true
}

// first returns the first Fault in err, or nil if there is none.
//
// errors.As calls methods of errors that others have written. A panic in one of them must not leave this package: such an error counts as one without a Fault.
func first(err error) (f *api.Fault) {
	defer func() {
		if recover() != nil {
			f = nil
		}
	}()
	if !errors.As(err, &f) {
		return nil
	}
	return f
}

// holds tells whether target is found in err; if a method of err panics before, it is not.
func holds(err, target error) (found bool) {
	defer func() {
		if recover() != nil {
			found = false
		}
	}()
	return errors.Is(err, target)
}
