package fault

import (
	"errors"
	"math"
	"slices"
	"testing"

	"dioptre/api"
)

// foreign is another package's error around one.
type foreign struct{ inner error }

func (f *foreign) Error() string { return "foreign" }
func (f *foreign) Unwrap() error { return f.inner }

// several is an error of a kind that can't be compared.
type several []error

func (s several) Error() string   { return "several" }
func (s several) Unwrap() []error { return s }

// labelled is another one of these, around one error.
type labelled struct {
	words []string
	inner error
}

func (l labelled) Error() string { return "labelled" }
func (l labelled) Unwrap() error { return l.inner }

// wild panics as soon as one looks into it.
type wild struct{}

func (wild) Error() string { panic("Error") }
func (wild) Unwrap() error { panic("Unwrap") }
func (wild) Is(error) bool { panic("Is") }
func (wild) As(any) bool   { panic("As") }

var plain = errors.New("plain")

// TestLookedUp: P1.1, and the rule of Is in P1.2: each error's number and places.
func TestLookedUp(t *testing.T) {
	var none *At
	var noForeign *foreign
	for _, c := range []struct {
		name   string
		e      error
		code   api.Errno
		places []int
	}{
		{"nil", nil, api.OK, nil},
		{"a number", api.ErrForm, api.ErrForm, nil},
		{"the first number", api.ErrArg, api.ErrArg, nil},
		{"the last number", api.ErrRange, api.ErrRange, nil},
		{"the number OK", api.OK, api.OK, nil},
		{"OK in a place", Wrap(api.OK, 2), api.OK, []int{2}},
		{"in one place", Wrap(api.ErrForm, 3), api.ErrForm, []int{3}},
		{"in two places", Wrap(Wrap(api.ErrForm, 3), 7), api.ErrForm, []int{7, 3}},
		{"in one place twice", Wrap(Wrap(api.ErrKey, 4), 4), api.ErrKey, []int{4, 4}},
		{"in three places", Wrap(Wrap(Wrap(api.ErrRange, 0), 5), 1), api.ErrRange, []int{1, 5, 0}},
		{"in the place 0", Wrap(api.ErrSign, 0), api.ErrSign, []int{0}},
		{"below 0", Wrap(Wrap(api.ErrLong, -1), -9), api.ErrLong, []int{-9, -1}},
		{"the least and the greatest place", Wrap(Wrap(api.ErrLong, math.MaxInt), math.MinInt), api.ErrLong, []int{math.MinInt, math.MaxInt}},
		{"no number", plain, api.OK, nil},
		{"no number, in places", Wrap(Wrap(plain, 3), 8), api.OK, []int{8, 3}},
		{"a place of nothing", &At{Place: 6}, api.OK, []int{6}},
		{"a nil place", none, api.OK, nil},
		{"a nil place, in a place", Wrap(none, 5), api.OK, []int{5}},
		{"foreign outside", &foreign{Wrap(api.ErrType, 2)}, api.ErrType, []int{2}},
		{"foreign between", Wrap(&foreign{Wrap(api.ErrType, 2)}, 9), api.ErrType, []int{9, 2}},
		{"foreign inside", Wrap(&foreign{api.ErrType}, 9), api.ErrType, []int{9}},
		{"foreign around nothing", Wrap(&foreign{}, 9), api.OK, []int{9}},
		{"joined", Wrap(errors.Join(plain, Wrap(api.ErrNone, 4)), 1), api.ErrNone, []int{1, 4}},
		{"one joined twice", errors.Join(errors.Join(api.ErrNone), errors.Join(api.ErrNone)), api.ErrNone, nil},
		{"that can't be compared", labelled{nil, labelled{nil, labelled{nil, Wrap(api.ErrDeep, 1)}}}, api.ErrDeep, []int{1}},
		{"joined that can't be compared", several{several{plain}, several{nil, Wrap(api.ErrDeep, 1)}}, api.ErrDeep, []int{1}},
		{"wild", wild{}, api.OK, nil},
		{"wild, in places", Wrap(Wrap(wild{}, 1), 2), api.OK, []int{2, 1}},
		{"wild behind a number", errors.Join(Wrap(api.ErrFull, 3), wild{}), api.ErrFull, []int{3}},
		{"a nil of a foreign kind", Wrap(noForeign, 2), api.OK, []int{2}},
	} {
		place := -1
		if len(c.places) > 0 {
			place = c.places[0]
		}
		if got := Code(c.e); got != c.code {
			t.Errorf("%s: Code %d, not %d", c.name, got, c.code)
		}
		if got := Place(c.e); got != place {
			t.Errorf("%s: Place %d, not %d", c.name, got, place)
		}
		if got := Places(c.e); !slices.Equal(got, c.places) {
			t.Errorf("%s: Places %d, not %d", c.name, got, c.places)
		}
		if Is(c.e, c.code) != (c.e != nil) {
			t.Errorf("%s: Is of its own number: %t", c.name, Is(c.e, c.code))
		}
		if Is(c.e, c.code+1, c.code-1) {
			t.Errorf("%s: Is of other numbers", c.name)
		}
	}
}

// TestWrap: P1.1: what Wrap lays around an error.
func TestWrap(t *testing.T) {
	for _, place := range []int{0, 3, -1, math.MinInt} {
		if e := Wrap(nil, place); e != nil {
			t.Error("Wrap of nil:", e)
		}
	}
	inner := Wrap(api.ErrForm, 3)
	a, ok := Wrap(inner, -7).(*At)
	if !ok || a.Place != -7 || a.Err != inner || a.Unwrap() != inner {
		t.Error("Wrap:", a)
	}
	// The library finds both, too.
	var number api.Errno
	var at *At
	if !errors.Is(a, api.ErrForm) || errors.Is(a, api.ErrArg) || !errors.As(a, &number) || number != api.ErrForm {
		t.Error("the number isn't found")
	}
	if !errors.As(a, &at) || at != a {
		t.Error("the outermost place isn't found first")
	}
	// To wrap changes nothing of what is wrapped.
	if Place(inner) != 3 || Wrap(inner, 1) == Wrap(inner, 1) {
		t.Error("what was wrapped has changed, or is shared")
	}
}

// TestFirst: P1.2: the first error that there is.
func TestFirst(t *testing.T) {
	var none *At
	e := Wrap(api.ErrKey, 2)
	for _, c := range []struct {
		l    []error
		want error
	}{
		{nil, nil},
		{[]error{nil}, nil},
		{[]error{nil, nil, nil}, nil},
		{[]error{e}, e},
		{[]error{nil, e, api.ErrArg}, e},
		{[]error{api.ErrFull, nil, e}, api.ErrFull},
		{[]error{nil, nil, plain}, plain},
		{[]error{nil, api.OK, e}, api.OK},
		{[]error{none, e}, none},
	} {
		got := First(c.l...)
		if (got == nil) != (c.want == nil) || got != nil && got != c.want {
			t.Errorf("First of %v: %v", c.l, got)
		}
	}
	if First() != nil {
		t.Error("First of nothing")
	}
}

// TestIs: P1.2: whether the number is one of these.
func TestIs(t *testing.T) {
	e := Wrap(Wrap(api.ErrForm, 3), 7)
	for _, c := range []struct {
		e     error
		codes []api.Errno
		want  bool
	}{
		{e, []api.Errno{api.ErrForm}, true},
		{e, []api.Errno{api.ErrForm, api.ErrArg}, true},
		{e, []api.Errno{api.ErrArg, api.ErrKey, api.ErrForm}, true},
		{e, []api.Errno{api.ErrArg, api.ErrKey}, false},
		{e, []api.Errno{api.OK}, false},
		{e, nil, false},
		{nil, nil, false},
		{nil, []api.Errno{api.OK}, false},
		{nil, []api.Errno{api.OK, api.ErrForm}, false},
		{plain, []api.Errno{api.OK}, true},
		{plain, []api.Errno{api.ErrForm}, false},
		{errors.Join(api.ErrArg, api.ErrForm), []api.Errno{api.ErrForm}, false}, // its Code is ErrArg
	} {
		if got := Is(c.e, c.codes...); got != c.want {
			t.Errorf("Is of %v, %d: %t", c.e, c.codes, got)
		}
	}
}

// TestNilAt: P1.2: Unwrap of a nil *At is nil; Error is a text of any.
func TestNilAt(t *testing.T) {
	var none *At
	if e := none.Unwrap(); e != nil {
		t.Error("Unwrap of a nil *At:", e)
	}
	if e := (&At{Place: 3}).Unwrap(); e != nil {
		t.Error("Unwrap of a place of nothing:", e)
	}
	for _, a := range []*At{none, {}, {Place: 3}, {Place: 3, Err: none}, {Place: 3, Err: wild{}}, {Place: -3, Err: Wrap(api.ErrForm, 2)}} {
		_ = a.Error()
	}
	if got := Wrap(Wrap(api.ErrForm, 3), 7).Error(); got != "at 7: at 3: error 2" {
		t.Error("Error:", got)
	}
}

// TestRings: every call ends, also where errors are wrapped in themselves.
func TestRings(t *testing.T) {
	one := &At{Place: 1}
	one.Err = one
	two := &At{Place: 2}
	two.Err = &foreign{Wrap(two, 3)}
	alien := &foreign{}
	alien.inner = alien
	joined := &At{Place: 4}
	joined.Err = errors.Join(plain, joined)
	list := several{nil}
	list[0] = &foreign{Wrap(errors.Join(list[0], joined), 1)}
	long := &foreign{}
	long.inner = long
	for i := range 1000 {
		long.inner = Wrap(long.inner, i)
	}
	// To look for a ring here means to compare what can't be compared.
	inWords := labelled{nil, labelled{nil, labelled{nil, one}}}
	inLists := several{several{several{plain, one}}}
	for i, e := range []error{one, two, alien, joined, list, long, inWords, inLists, Wrap(one, 5), Wrap(&foreign{two}, 5), Wrap(alien, 5), &foreign{joined}, errors.Join(plain, one)} {
		if Code(e) != api.OK || Place(e) != -1 || Places(e) != nil || !Is(e, api.OK) || Is(e, api.ErrForm) || First(nil, e) == nil {
			t.Error("ring", i)
		}
		if a, ok := e.(*At); ok && (a.Error() == "" || a.Unwrap() == nil) {
			t.Error("ring", i, "Error, Unwrap")
		}
	}
}

// TestManyPlaces: as many places as one likes.
func TestManyPlaces(t *testing.T) {
	var e error = api.ErrTwice
	const n = 100000
	for i := range n {
		e = Wrap(e, i)
	}
	l := Places(e)
	if Code(e) != api.ErrTwice || Place(e) != n-1 || len(l) != n {
		t.Fatal("many places:", Code(e), Place(e), len(l))
	}
	for i, p := range l {
		if p != n-1-i {
			t.Fatal("place", i, "is", p)
		}
	}
	l[0] = 5
	if Places(e)[0] != n-1 {
		t.Error("what was told is kept")
	}
}

// TestNumbers: the document's list of errors.
func TestNumbers(t *testing.T) {
	for i, c := range []api.Errno{api.OK, api.ErrArg, api.ErrForm, api.ErrLong, api.ErrDeep, api.ErrKind, api.ErrType, api.ErrNone, api.ErrTwice, api.ErrSign, api.ErrKey, api.ErrParent, api.ErrFull, api.ErrLens, api.ErrState, api.ErrRange} {
		if int(c) != i || Code(Wrap(c, 1)) != c {
			t.Error("the error", i, "is", int(c))
		}
	}
}
