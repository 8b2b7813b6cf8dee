package fault

import (
	"errors"
	"slices"
)

// search looks into an error, if that has an end. Left alone, errors.As would go round for ever in an error that is wrapped in itself, and hand on what methods of foreign errors panic with.
func search(e error, look func()) {
	ring := false
	// If this panics, look comes to an end there too: at that very method, if not ahead of it.
	quietly(func() { ring = endless(e) })
	if !ring {
		quietly(look)
	}
}

func quietly(do func()) {
	defer func() { _ = recover() }()
	do()
}

// endless tells whether an error is wrapped in itself; around are the errors that have it in a list.
func endless(e error, around ...error) bool {
	kept, steps, most := e, 0, 1
	for e != nil {
		if l, ok := e.(interface{ Unwrap() []error }); ok {
			return has(around, e) || anyEndless(l.Unwrap(), append(slices.Clone(around), e))
		}
		e = errors.Unwrap(e)
		if same(e, kept) {
			return true
		}
		// The error that is kept changes after ever more steps: at last it lies in the ring, and stays there for a whole round.
		if steps++; steps == most {
			kept, steps, most = e, 0, 2*most
		}
	}
	return false
}

func anyEndless(l, around []error) bool {
	return slices.ContainsFunc(l, func(e error) bool { return endless(e, around...) })
}

func has(l []error, e error) bool {
	return slices.ContainsFunc(l, func(x error) bool { return same(x, e) })
}

// same tells whether two errors are the same one. To compare those of a kind that can't be compared panics: these are taken for others.
func same(a, b error) (yes bool) {
	defer func() {
		if recover() != nil {
			yes = false
		}
	}()
	return a != nil && b != nil && a == b
}
