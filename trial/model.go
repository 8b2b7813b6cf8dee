// Package trial is for tests alone: things that are written as bytes are held against a model, which reads these by the chapters' words, and things that are laid in their order likewise.
package trial

import (
	"slices"

	"dioptre/api"
	"dioptre/fault"
	"dioptre/pack"
)

// T is a test, such as *testing.T.
type T interface {
	Helper()
	Errorf(format string, args ...any)
}

// Wrong is an error's number, and its place: below 0, if it has none. Zero, if nothing is wrong.
type Wrong struct {
	Code  api.Errno
	Place int
}

// is tells whether an error has just that number and that place.
func (w Wrong) is(e error) bool {
	if w.Code == api.OK {
		return e == nil
	}
	places := fault.Places(e)
	if w.Place < 0 {
		return fault.Code(e) == w.Code && len(places) == 0
	}
	return fault.Code(e) == w.Code && len(places) == 1 && places[0] == w.Place
}

// Error holds an error against what is wrong.
func Error(t T, name string, e error, w Wrong) {
	t.Helper()
	if !w.is(e) {
		t.Errorf("%s: %v (in %v), not %d in %d", name, e, fault.Places(e), w.Code, w.Place)
	}
}

// Code holds an error that has no place against its number.
func Code(t T, name string, e error, code api.Errno) {
	t.Helper()
	Error(t, name, e, Wrong{code, -1})
}

// Model reads bytes: the first that is wrong ends it.
type Model struct {
	b []byte
	// At is the place where it stands.
	At int
}

// Ask ends it, if something isn't so.
func (m *Model) Ask(ok bool, code api.Errno, place int) {
	if !ok {
		panic(Wrong{code, place})
	}
}

// Byte reads a byte.
func (m *Model) Byte() byte {
	m.Ask(m.At < len(m.b), api.ErrForm, m.At)
	m.At++
	return m.b[m.At-1]
}

// Raw reads so many bytes.
func (m *Model) Raw(n int) []byte {
	m.Ask(n <= len(m.b)-m.At, api.ErrForm, m.At)
	m.At += n
	return slices.Clone(m.b[m.At-n : m.At])
}

// Kind reads a kind, one of 1 to most.
func (m *Model) Kind(most int) int {
	kind := int(m.Byte())
	m.Ask(kind > 0 && kind <= most, api.ErrKind, m.At)
	return kind
}

// Number reads a number.
func (m *Model) Number() uint64 {
	start, n := m.At, uint64(0)
	for i := 0; ; i++ {
		m.Ask(m.At < len(m.b) && i < 10, api.ErrForm, start)
		c := m.b[m.At]
		m.At++
		n |= uint64(c&127) << (7 * i)
		m.Ask(i < 9 || c < 2, api.ErrForm, start)
		if c < 128 {
			m.Ask(i == 0 || c > 0, api.ErrForm, start)
			return n
		}
	}
}

// Count reads how many things come.
func (m *Model) Count(most int) int {
	n := m.Number()
	m.Ask(n <= uint64(most), api.ErrLong, m.At)
	return int(n)
}

// Text reads a text of at most 64 bytes.
func (m *Model) Text() string {
	start := m.At
	n := m.Number()
	m.Ask(n <= 64, api.ErrLong, start)
	m.Ask(n <= uint64(len(m.b)-m.At), api.ErrForm, start)
	return string(m.Raw(int(n)))
}

// Name reads a name.
func (m *Model) Name() string {
	s := m.Text()
	m.Ask(Name(s), api.ErrForm, m.At)
	return s
}

// Name tells whether a text is a name.
func Name(s string) bool {
	ok := len(s) >= 1 && len(s) <= 12
	for _, c := range []byte(s) {
		small, digit := c >= 'a' && c <= 'z', c >= '0' && c <= '9'
		ok = ok && (small || digit || c == '_')
	}
	return ok
}

// Below reads what a lower layer reads, which is tested there.
func Below[X any](m *Model, read func(r *pack.Reader) X) X {
	r := pack.NewReader(m.b[m.At:])
	x := read(r)
	m.Ask(r.Err() == nil, fault.Code(r.Err()), m.At+fault.Place(r.Err()))
	m.At += r.At()
	return x
}

// Of is what a model reads at the beginning of bytes, and how many these are; or what is wrong.
func Of[X any](b []byte, model func(m *Model) X) (x X, size int, w Wrong) {
	defer func() {
		if e := recover(); e != nil {
			var none X
			x, size, w = none, 0, e.(Wrong)
		}
	}()
	m := &Model{b: b}
	x = model(m)
	return x, m.At, Wrong{}
}
