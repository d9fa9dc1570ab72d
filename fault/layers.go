package fault

import (
	"iter"
	"slices"
)

// mostForeign: so many errors that wrap, and aren't Steps, are gone into at most. Of those it can't be told in general which one was met already (some can't be compared, some make anew what they wrap), and one that wraps itself must come to an end.
const mostForeign = 1 << 22

type wrapsOne interface{ Unwrap() error }

type wrapsMany interface{ Unwrap() []error }

// layers: err and all that it wraps, in the order of errors.As: each ahead of what it wraps itself, that ahead of its neighbours. The library's own way through would not end where errors wrap one another in a circle.
func layers(err error) iter.Seq[error] {
	return func(yield func(error) bool) {
		enters := newGate()
		left := []error{err}
		for len(left) > 0 {
			e := left[len(left)-1]
			left = left[:len(left)-1]
			if !enters(e) {
				continue
			}
			if !yield(e) {
				return
			}
			for _, x := range slices.Backward(inner(e)) {
				left = append(left, x)
			}
		}
	}
}

// newGate: a function that says of each error on a way whether to look at it, and at what it wraps: a Step is looked at once.
func newGate() func(error) bool {
	met := map[*Step]struct{}{}
	foreign := 0
	return func(e error) bool {
		switch x := e.(type) {
		case nil:
			return false
		case *Step:
			_, again := met[x]
			met[x] = struct{}{}
			return !again
		case wrapsOne, wrapsMany:
			foreign++
			return foreign <= mostForeign
		}
		return true
	}
}

// inner: what e wraps; nothing, if its Unwrap panics.
func inner(e error) []error {
	var found []error
	calm(func() bool {
		switch x := e.(type) {
		case wrapsOne:
			found = []error{x.Unwrap()}
		case wrapsMany:
			found = x.Unwrap()
		}
		return true
	})
	return found
}

// shell is an error that wraps, without what it wraps: what it says of itself is left.
type shell struct{ error }

// Is: does it take itself for target?
func (s shell) Is(target error) bool {
	if x, ok := s.error.(interface{ Is(error) bool }); ok {
		return x.Is(target)
	}
	return false
}

// As: does it hand itself out as what target points at?
func (s shell) As(target any) bool {
	if x, ok := s.error.(interface{ As(any) bool }); ok {
		return x.As(target)
	}
	return false
}

// alone: e as errors.Is and errors.As may be asked of it, without going further in by themselves.
func alone(e error) error {
	switch e.(type) {
	case wrapsOne, wrapsMany:
		return shell{e}
	}
	return e
}

// calm: what ask answers; false, if it panics, as methods of others' errors may.
func calm(ask func() bool) (yes bool) {
	defer func() {
		if recover() != nil {
			yes = false
		}
	}()
	return ask()
}
