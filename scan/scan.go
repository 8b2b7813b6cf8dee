// Package scan reads what several layers have in common: how many things come, and words and numbers of which more is asked than package pack does (what is wrong with them is told behind them); and bytes as a whole.
package scan

import (
	"math"

	"dioptre/api"
	"dioptre/pack"
)

// Count reads how many things come: ErrLong of more than most.
func Count(r *pack.Reader, most int) int {
	n := r.Number(math.MaxUint64)
	if n > uint64(most) {
		r.Fail(api.ErrLong)
		return 0
	}
	return int(n)
}

// Word reads a text of at most MaxText bytes: ErrForm, if it doesn't fit.
func Word(r *pack.Reader, fits func(s string) bool) string {
	return asked(r, r.Text(api.MaxText), fits)
}

// Number reads a number: ErrForm, if it doesn't fit.
func Number(r *pack.Reader, fits func(n uint64) bool) uint64 {
	return asked(r, r.Number(math.MaxUint64), fits)
}

// asked is what was read, if it fits.
func asked[T any](r *pack.Reader, x T, fits func(x T) bool) T {
	if !fits(x) {
		r.Fail(api.ErrForm)
		var none T
		return none
	}
	return x
}

// Whole is what all these bytes tell: ErrLong of more than MaxBytes, or what is wrong with them.
func Whole[T any](b []byte, read func(r *pack.Reader) T) (T, error) {
	var none T
	if len(b) > api.MaxBytes {
		return none, api.ErrLong
	}
	r := pack.NewReader(b)
	x := read(r)
	if e := r.End(); e != nil {
		return none, e
	}
	return x, nil
}
