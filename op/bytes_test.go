package op

import (
	"math"
	"slices"
	"strings"
	"testing"

	"dioptre/api"
	"dioptre/sample"
	"dioptre/trial"
)

// opBytes are right operations, and their bytes.
var opBytes = []struct {
	o api.Op
	b string
}{
	{set(nil, num(5)), "\x01\x00\x02\x0a"},
	{set(steps("a"), truth(1)), "\x01\x01\x01a\x01\x01"},
	{set(steps("ab", 300), text("xy")), "\x01\x02\x02ab\x00\xac\x02\x03\x02xy"},
	{set(nil, record([]string{"a", "b"}, truth(1), num(5))), "\x01\x00\x05\x02\x01a\x01\x01\x01b\x02\x0a"},
	{set(steps("a", 1, "b", 2, "c", 3, "d", 4), word("w")), "\x01\x08\x01a\x00\x01\x01b\x00\x02\x01c\x00\x03\x01d\x00\x04\x04\x01w"},
	{insert(nil, 1, 0, num(-1)), "\x02\x00\x01\x00\x02\x01"},
	{insert(steps("l"), 9, 300, list(nil)), "\x02\x01\x01l\x09\xac\x02\x06\x00"},
	{insert(steps(7), math.MaxUint64, 1, list([]uint64{9}, truth(0))), "\x02\x01\x00\x07\xff\xff\xff\xff\xff\xff\xff\xff\xff\x01\x01\x06\x01\x09\x01\x00"},
	{insert(nil, 1, math.MaxUint64, text("")), "\x02\x00\x01\xff\xff\xff\xff\xff\xff\xff\xff\xff\x01\x03\x00"},
	{remove(nil, 1), "\x03\x00\x01"},
	{remove(steps("a", 3), 300), "\x03\x02\x01a\x00\x03\xac\x02"},
	{remove(nil, math.MaxUint64), "\x03\x00\xff\xff\xff\xff\xff\xff\xff\xff\xff\x01"},
	{move(nil, 1, 0), "\x04\x00\x01\x00"},
	{move(steps("l"), 1, 2), "\x04\x01\x01l\x01\x02"},
	{move(steps(2, "l"), 300, math.MaxUint64), "\x04\x02\x00\x02\x01l\xac\x02\xff\xff\xff\xff\xff\xff\xff\xff\xff\x01"},
}

// TestBytes: P12.2, P12.3: the bytes of each kind; they are decoded, those that are cut off, or followed by others, are refused.
func TestBytes(t *testing.T) {
	for _, c := range opBytes {
		if got := wantBytes(c.o); string(got) != c.b {
			t.Errorf("the model's bytes of %v: %x", c.o, got)
		}
		code.Known(t, c.o, c.b)
	}
}

// TestBytesWrong: P12.2: of an operation that isn't right there are no bytes, and nothing is written.
func TestBytesWrong(t *testing.T) {
	for _, c := range checks {
		if c.code == api.ErrArg {
			code.Refused(t, c.name, c.o, api.ErrArg)
		}
	}
	// ErrArg is named first.
	code.Refused(t, "no name, long", set(steps("A"), sample.Large(5000)), api.ErrArg)
	code.Refused(t, "behind itself, long", insert(nil, 3, 3, sample.Large(5000)), api.ErrArg)
	code.Refused(t, "a value, long", api.Op{Kind: api.Delete, Id: 1, Value: sample.Large(5000)}, api.ErrArg)
	for _, n := range []int{4097, 5000, 9000} {
		code.Refused(t, "a long Set", set(nil, sample.Large(n)), api.ErrLong)
		code.Refused(t, "a long Insert", insert(steps("l"), 1, 0, sample.Large(n)), api.ErrLong)
	}
}

// TestLong: P12.2: at most MaxBytes bytes, all of the operation's counted.
func TestLong(t *testing.T) {
	for _, ahead := range []api.Op{
		set(nil, num(0)), set(steps("abc", 5), num(0)), insert(nil, 1, 0, num(0)), insert(steps("l", 300, "abcdefghijkl"), 300, math.MaxUint64, num(0)),
	} {
		without := len(wantBytes(ahead)) - 2
		for size := 4090; size < 4100; size++ {
			o := ahead
			o.Value = sample.Large(size - without)
			want := wantBytes(o)
			if want == nil {
				code.Refused(t, "a value that is too long alone", o, api.ErrLong)
				continue
			}
			if len(want) != size {
				t.Fatal("not so many bytes:", len(want), size)
			}
			code.Sized(t, o, want)
		}
	}
	for _, b := range [][]byte{make([]byte, 4097), slices.Repeat([]byte("\x04"), 4097), append([]byte("\x04\x00\x01\x02"), make([]byte, 4093)...), make([]byte, 100000)} {
		code.TooLong(t, b)
	}
	code.Fails(t, "4096, most of them left", "\x04\x00\x01\x02"+strings.Repeat("\x00", 4092), trial.Wrong{Code: api.ErrForm, Place: 4})
}

// wrongBytes are bytes, and what is wrong with them, in which place, whatever stands behind them.
var wrongBytes = []struct {
	name, b string
	code    api.Errno
	place   int
}{
	{"kind 0", "\x00", api.ErrKind, 1},
	{"kind 5", "\x05\x00\x01", api.ErrKind, 1},
	{"kind 129", "\x81\x00\x01", api.ErrKind, 1},
	{"kind 255", "\xff", api.ErrKind, 1},
	{"kind 0 ahead of a wrong path", "\x00\x09", api.ErrKind, 1},
	{"nine steps", "\x01\x09", api.ErrLong, 2},
	{"many steps", "\x03\x80\x01", api.ErrLong, 3},
	{"steps, not short", "\x03\x80\x00\x01", api.ErrForm, 1},
	{"a step that is no name", "\x04\x01\x01A\x01\x02", api.ErrForm, 4},
	{"a step of 65", "\x04\x01\x41", api.ErrLong, 2},
	{"a step of 0", "\x02\x01\x00\x00\x01\x00\x02\x00", api.ErrForm, 4},
	{"Set, a value of no kind", "\x01\x00\x07", api.ErrKind, 3},
	{"Set, the value 0", "\x01\x00\x00", api.ErrKind, 3},
	{"Set, a wrong value", "\x01\x00\x01\x02", api.ErrForm, 3},
	{"Set, a value's word", "\x01\x01\x01a\x04\x01A", api.ErrForm, 7},
	{"Set, a value six deep", "\x01\x00\x06\x01\x01\x06\x01\x01\x06\x01\x01\x06\x01\x01\x06\x01\x01\x02\x00", api.ErrDeep, 17},
	{"Insert of 0", "\x02\x00\x00\x01\x02\x00", api.ErrForm, 3},
	{"Insert of 0 behind 0", "\x02\x00\x00\x00\x02\x00", api.ErrForm, 3},
	{"Insert, an Id that isn't short", "\x02\x00\x81\x00\x01\x02\x00", api.ErrForm, 2},
	{"Insert, an Id above", "\x02\x00\xff\xff\xff\xff\xff\xff\xff\xff\xff\x02\x00", api.ErrForm, 2},
	{"Insert behind itself", "\x02\x00\x05\x05\x02\x00", api.ErrForm, 4},
	{"Insert behind itself, long", "\x02\x00\xac\x02\xac\x02\x02\x00", api.ErrForm, 6},
	{"Insert, an After that isn't short", "\x02\x00\x05\x85\x00\x02\x00", api.ErrForm, 3},
	{"Insert behind itself, a wrong value", "\x02\x00\x05\x05\x09", api.ErrForm, 4},
	{"Insert, a wrong value", "\x02\x00\x05\x00\x09", api.ErrKind, 5},
	{"Delete of 0", "\x03\x00\x00", api.ErrForm, 3},
	{"Delete of 0 behind a path", "\x03\x01\x01a\x00", api.ErrForm, 5},
	{"Delete, an Id that isn't short", "\x03\x00\x80\x00", api.ErrForm, 2},
	{"Move of 0", "\x04\x00\x00\x01", api.ErrForm, 3},
	{"Move of 0 behind 0", "\x04\x00\x00\x00", api.ErrForm, 3},
	{"Move behind itself", "\x04\x00\x07\x07", api.ErrForm, 4},
	{"Move behind itself, the greatest", "\x04\x00\xff\xff\xff\xff\xff\xff\xff\xff\xff\x01\xff\xff\xff\xff\xff\xff\xff\xff\xff\x01", api.ErrForm, 22},
	{"Move, an After above", "\x04\x00\x07\xff\xff\xff\xff\xff\xff\xff\xff\xff\x03", api.ErrForm, 3},
}

// cutBytes are bytes that are wrong by where they end.
var cutBytes = []struct {
	name, b string
	place   int
}{
	{"none", "", 0},
	{"Set without a path", "\x01", 1},
	{"Delete without a path", "\x03", 1},
	{"a step that lacks", "\x04\x01", 2},
	{"a name that lacks", "\x04\x01\x02a", 2},
	{"Set without a value", "\x01\x00", 2},
	{"Set, a value that ends", "\x01\x00\x02", 3},
	{"Insert without an Id", "\x02\x00", 2},
	{"Insert without an After", "\x02\x00\x01", 3},
	{"Insert, an After that goes on", "\x02\x00\x01\x80", 3},
	{"Insert without a value", "\x02\x00\x01\x00", 4},
	{"Delete without an Id", "\x03\x00", 2},
	{"Delete, an Id that goes on", "\x03\x00\x80", 2},
	{"Move without an Id", "\x04\x00", 2},
	{"Move without an After", "\x04\x00\x01", 3},
}

// TestErrors: P12.2: each error, in its place, the first one from the left.
func TestErrors(t *testing.T) {
	for _, c := range cutBytes {
		code.Fails(t, c.name, c.b, trial.Wrong{Code: api.ErrForm, Place: c.place})
	}
	for _, c := range wrongBytes {
		for _, rest := range []string{"", "\x00", "\x09\x09"} {
			code.Fails(t, c.name, c.b+rest, trial.Wrong{Code: c.code, Place: c.place})
		}
	}
}

// TestSeveral: P12.2: operations that stand one behind the other are read one by one.
func TestSeveral(t *testing.T) {
	var l []api.Op
	for _, c := range opBytes {
		l = append(l, c.o)
	}
	code.Several(t, l...)
}

// TestDecodeAll: P12.2: all bytes up to six of those that say something, as the model says.
func TestDecodeAll(t *testing.T) {
	if right := code.All(t, "", "\x00\x01\x02\x03\x04\x05a\x80", 6); right < 500 {
		t.Error("right:", right)
	}
}

// TestBytesAny: P12.2, P12.3: any operations are encoded and decoded; bytes that were changed somewhere, as the model says.
func TestBytesAny(t *testing.T) {
	r := chance()
	count := map[bool]int{}
	for range 15000 {
		s := sample.SomeSchema(r.IntN, 4)
		o := someOp(r, s, sample.SomeFit(r.IntN, s))
		want := wantBytes(o)
		switch {
		case !wantRight(o):
			code.Refused(t, "one that isn't right", o, api.ErrArg)
		case want == nil || len(want) > 4096:
			code.Refused(t, "one that is too long", o, api.ErrLong)
		default:
			code.Encoded(t, o, want)
			if got, e := Decode(want); e != nil || !equal(got, o) {
				t.Fatalf("Decode of %x: %v %v, not %v", want, got, e, o)
			}
			// Most of what is this chapter's stands at the beginning.
			i := r.IntN([]int{len(want), min(6, len(want))}[r.IntN(2)])
			count[code.Changed(t, r.IntN, want, i)]++
		}
	}
	if count[true] < 1000 || count[false] < 1000 {
		t.Errorf("%v", count)
	}
}
