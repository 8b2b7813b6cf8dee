package pack

import (
	"math"
	"slices"

	"dioptre/api"
	"dioptre/fault"
)

// Reader reads fields. What broke it is kept as a number, not as an error: whoever is told of it gets an error of his own.
type Reader struct {
	bytes  []byte
	place  int
	broken api.Errno
}

// NewReader is a reader at the beginning.
func NewReader(b []byte) *Reader {
	return &Reader{bytes: slices.Clone(b)}
}

// field is what read makes of the bytes that are left, of which it tells how many it took. It isn't asked of a broken reader.
func field[T any](r *Reader, read func(left []byte) (x T, took int, c api.Errno)) T {
	var none T
	if r == nil || r.broken != api.OK {
		return none
	}
	x, took, c := read(r.bytes[r.place:])
	if c != api.OK {
		r.Fail(c)
		return none
	}
	r.place += took
	return x
}

// Fail breaks the reader.
func (r *Reader) Fail(c api.Errno) {
	if r != nil && r.broken == api.OK {
		r.broken = c
	}
}

// Byte reads a byte.
func (r *Reader) Byte() byte {
	return field(r, func(left []byte) (byte, int, api.Errno) {
		if len(left) == 0 {
			return 0, 0, api.ErrForm
		}
		return left[0], 1, api.OK
	})
}

// Number reads a number.
func (r *Reader) Number(most uint64) uint64 {
	return field(r, func(left []byte) (uint64, int, api.Errno) {
		n, size := split(left)
		if size == 0 {
			return 0, 0, api.ErrForm
		}
		if n > most {
			return 0, 0, api.ErrRange
		}
		return n, size, api.OK
	})
}

// Int reads a signed number.
func (r *Reader) Int() int {
	return unfold(r.Number(math.MaxUint64))
}

// Bool reads a bool.
func (r *Reader) Bool() bool {
	return field(r, func(left []byte) (bool, int, api.Errno) {
		if len(left) == 0 || left[0] > 1 {
			return false, 0, api.ErrForm
		}
		return left[0] == 1, 1, api.OK
	})
}

// Bytes reads bytes, and how many there are.
func (r *Reader) Bytes(most int) []byte {
	return field(r, func(left []byte) ([]byte, int, api.Errno) {
		n, size := split(left)
		if size == 0 {
			return nil, 0, api.ErrForm
		}
		if n > uint64(max(most, 0)) {
			return nil, 0, api.ErrLong
		}
		if n > uint64(len(left)-size) {
			return nil, 0, api.ErrForm
		}
		end := size + int(n)
		return slices.Clone(left[size:end]), end, api.OK
	})
}

// Text reads a text.
func (r *Reader) Text(most int) string {
	return string(r.Bytes(most))
}

// Raw reads so many bytes.
func (r *Reader) Raw(n int) []byte {
	return field(r, func(left []byte) ([]byte, int, api.Errno) {
		if n > len(left) {
			return nil, 0, api.ErrForm
		}
		size := max(n, 0)
		return slices.Clone(left[:size]), size, api.OK
	})
}

// Err is what broke it.
func (r *Reader) Err() error {
	if r == nil {
		return api.ErrState
	}
	if r.broken == api.OK {
		return nil
	}
	return fault.Wrap(r.broken, r.place)
}

// End is what broke it, or that bytes are left.
func (r *Reader) End() error {
	if e := r.Err(); e != nil {
		return e
	}
	if r.place < len(r.bytes) {
		return fault.Wrap(api.ErrForm, r.place)
	}
	return nil
}

// At is the place where it stands.
func (r *Reader) At() int {
	if r == nil {
		return 0
	}
	return r.place
}
