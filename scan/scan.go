// Package scan reads what several layers have in common: kinds, how many things come, and whatever more is asked of than package pack does (what is wrong with it is told behind it); and bytes as a whole.
package scan

import (
	"math"

	"dioptre/api"
	"dioptre/pack"
)

// Count reads how many things come: ErrLong of more than most.
func Count(r *pack.Reader, most int) int {
	n := r.Number(math.MaxUint64)
	if n > uint64(most) {
		r.Fail(api.ErrLong)
		return 0
	}
	return int(n)
}

// Kind reads a kind, one of 1 to most: ErrKind of another one.
func Kind(r *pack.Reader, most int) int {
	kind := int(r.Byte())
	if kind < 1 || kind > most {
		r.Fail(api.ErrKind)
		return 0
	}
	return kind
}

// Word reads a text of at most MaxText bytes: ErrForm, if it doesn't fit.
func Word(r *pack.Reader, fits func(s string) bool) string {
	return Asked(r, func(r *pack.Reader) string { return r.Text(api.MaxText) }, fits)
}

// Number reads a number: ErrForm, if it doesn't fit.
func Number(r *pack.Reader, fits func(n uint64) bool) uint64 {
	return Asked(r, func(r *pack.Reader) uint64 { return r.Number(math.MaxUint64) }, fits)
}

// Asked is what the function that is handed on reads: ErrForm, if it doesn't fit.
func Asked[T any](r *pack.Reader, read func(r *pack.Reader) T, fits func(x T) bool) T {
	x := read(r)
	if !fits(x) {
		r.Fail(api.ErrForm)
		var none T
		return none
	}
	return x
}

// Whole is what all these bytes tell: ErrLong of more than MaxBytes, or what is wrong with them.
func Whole[T any](b []byte, read func(r *pack.Reader) T) (T, error) {
	var none T
	if len(b) > api.MaxBytes {
		return none, api.ErrLong
	}
	r := pack.NewReader(b)
	x := read(r)
	if e := r.End(); e != nil {
		return none, e
	}
	return x, nil
}
