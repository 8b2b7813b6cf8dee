// Package fault is layer 1: errors that tell where.
package fault

import (
	"errors"
	"slices"
	"strconv"
	"strings"

	"dioptre/api"
)

// At is an error in a place.
type At struct {
	Place int
	Err   error
}

// Error is the places, the outermost one first, and the number.
func (a *At) Error() string {
	var words []string
	for _, p := range Places(a) {
		words = append(words, "at "+strconv.Itoa(p))
	}
	return strings.Join(append(words, Code(a).Error()), ": ")
}

// Unwrap is what was wrapped.
func (a *At) Unwrap() error {
	if a == nil {
		return nil
	}
	return a.Err
}

// Wrap lays a place around an error.
func Wrap(e error, place int) error {
	if e == nil {
		return nil
	}
	return &At{Place: place, Err: e}
}

// Code is the number in an error.
func Code(e error) api.Errno {
	code := api.OK
	search(e, func() {
		var found api.Errno
		if errors.As(e, &found) {
			code = found
		}
	})
	return code
}

// Place is the outermost place.
func Place(e error) int {
	place := -1
	search(e, func() {
		if a := outermost(e); a != nil {
			place = a.Place
		}
	})
	return place
}

// Places is all places, the outermost one first.
func Places(e error) []int {
	var l []int
	search(e, func() {
		for a := outermost(e); a != nil; a = outermost(a.Err) {
			l = append(l, a.Place)
		}
	})
	return l
}

// outermost is the first place that is laid around an error; nil, where there is none.
func outermost(e error) *At {
	var a *At
	if errors.As(e, &a) {
		return a
	}
	return nil
}

// First is the first error that there is.
func First(l ...error) error {
	for _, e := range l {
		if e != nil {
			return e
		}
	}
	return nil
}

// Is tells whether an error has one of these numbers.
func Is(e error, codes ...api.Errno) bool {
	if e == nil {
		return false
	}
	code := Code(e)
	return slices.ContainsFunc(codes, func(c api.Errno) bool { return errors.Is(code, c) })
}
