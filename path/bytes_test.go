package path

import (
	"math"
	"slices"
	"strings"
	"testing"

	"dioptre/api"
	"dioptre/pack"
	"dioptre/trial"
)

// pathBytes are right paths, and their bytes.
var pathBytes = []struct {
	p []api.Step
	b string
}{
	{nil, "\x00"},
	{steps("a"), "\x01\x01a"},
	{steps("abcdefghij_9"), "\x01\x0cabcdefghij_9"},
	{steps(1), "\x01\x00\x01"},
	{steps(300), "\x01\x00\xac\x02"},
	{steps(uint64(math.MaxUint64)), "\x01\x00\xff\xff\xff\xff\xff\xff\xff\xff\xff\x01"},
	{steps("a", 3), "\x02\x01a\x00\x03"},
	{steps(3, "a"), "\x02\x00\x03\x01a"},
	{steps("ab", "c", 5, 6), "\x04\x02ab\x01c\x00\x05\x00\x06"},
	{steps("a", 1, "b", 2, "c", 3, "d", 4), "\x08\x01a\x00\x01\x01b\x00\x02\x01c\x00\x03\x01d\x00\x04"},
	{steps("a", "a", "a", "a", "a", "a", "a", "a"), "\x08" + strings.Repeat("\x01a", 8)},
}

// TestBytes: P10.3: the bytes of a right path, behind what was written before; they are read, also if others stand behind them, but not if they are cut off.
func TestBytes(t *testing.T) {
	for _, c := range pathBytes {
		code.Known(t, c.p, c.b)
		r := pack.NewReader([]byte(c.b + "\x05"))
		if p := Read(r); !slices.Equal(p, c.p) || r.Err() != nil || r.At() != len(c.b) {
			t.Errorf("Read of %x: %v %v, at %d", c.b, p, r.Err(), r.At())
		}
	}
}

// TestWriteWrong: P10.3: of a path that isn't right nothing is written.
func TestWriteWrong(t *testing.T) {
	for _, p := range [][]api.Step{
		steps(0), steps("A"), steps("abcdefghijklm"), steps("a b"), steps(api.Step{Name: "a", Id: 1}), steps("a", 1, 0), steps("a", 1, "Z"),
		slices.Repeat(steps("a"), 9), slices.Repeat(steps(1), 100),
	} {
		code.Refused(t, "one that isn't right", p, api.ErrArg)
	}
	Write(nil, steps(0))
}

// wrongReads are bytes, and what is wrong with them, in which place, whatever stands behind them.
var wrongReads = []struct {
	name, b string
	code    api.Errno
	place   int
}{
	{"a number that isn't short", "\x81\x00\x01a", api.ErrForm, 0},
	{"a number above", "\xff\xff\xff\xff\xff\xff\xff\xff\xff\x02", api.ErrForm, 0},
	{"nine steps", "\x09" + strings.Repeat("\x01a", 9), api.ErrLong, 1},
	{"nine steps, cut off", "\x09", api.ErrLong, 1},
	{"128 steps", "\x80\x01", api.ErrLong, 2},
	{"very many steps", "\xff\xff\xff\xff\xff\xff\xff\xff\xff\x01", api.ErrLong, 10},
	{"a name's number that isn't short", "\x01\x81\x00a", api.ErrForm, 1},
	{"a name of 65", "\x01\x41" + strings.Repeat("a", 65), api.ErrLong, 1},
	{"a name of 65, cut off", "\x01\x41", api.ErrLong, 1},
	{"a name of very many", "\x01\xff\xff\xff\xff\xff\xff\xff\xff\xff\x01", api.ErrLong, 1},
	{"a name of 64", "\x01\x40" + strings.Repeat("a", 64), api.ErrForm, 66},
	{"a name of 13", "\x01\x0dabcdefghijklm", api.ErrForm, 15},
	{"a great letter", "\x01\x01A", api.ErrForm, 3},
	{"a slash", "\x01\x03a/b\x00", api.ErrForm, 5},
	{"the byte 0", "\x01\x01\x00", api.ErrForm, 3},
	{"an element's number that isn't short", "\x01\x00\x81\x00", api.ErrForm, 2},
	{"an element's number above", "\x01\x00\xff\xff\xff\xff\xff\xff\xff\xff\xff\x02", api.ErrForm, 2},
	{"the number 0", "\x01\x00\x00", api.ErrForm, 3},
	{"the number 0, more behind", "\x02\x00\x00\x01A", api.ErrForm, 3},
	{"a second name that is none", "\x02\x01a\x01A", api.ErrForm, 5},
	{"a second number that is 0", "\x02\x00\x05\x00\x00", api.ErrForm, 5},
	{"a name that is none ahead of one that is too long", "\x02\x01A\x41", api.ErrForm, 3},
	{"the eighth one", "\x08" + strings.Repeat("\x01a", 7) + "\x00\x00", api.ErrForm, 17},
}

// cutReads are bytes that are wrong by where they end.
var cutReads = []struct {
	name, b string
	place   int
}{
	{"none", "", 0},
	{"a number that goes on", "\x80", 0},
	{"no step", "\x01", 1},
	{"a name's number that goes on", "\x01\x80", 1},
	{"a name, none left", "\x01\x01", 1},
	{"a name, fewer left", "\x01\x02a", 1},
	{"a name of 64, fewer left", "\x01\x40" + strings.Repeat("a", 63), 1},
	{"no number", "\x01\x00", 2},
	{"an element's number that goes on", "\x01\x00\xff\xff", 2},
	{"a second step that lacks", "\x02\x01a", 3},
	{"an eighth step that lacks", "\x08" + strings.Repeat("\x00\x01", 7), 15},
}

// TestReadWrong: P10.3: each error, in its place, the first one from the left.
func TestReadWrong(t *testing.T) {
	for _, c := range cutReads {
		code.Fails(t, c.name, c.b, trial.Wrong{Code: api.ErrForm, Place: c.place})
	}
	for _, c := range wrongReads {
		for _, rest := range []string{"", "\x00", "\x09\x09"} {
			code.Fails(t, c.name, c.b+rest, trial.Wrong{Code: c.code, Place: c.place})
		}
	}
}

// TestReadAll: P10.3: all bytes up to five of those that say something, as the model says.
func TestReadAll(t *testing.T) {
	if right := code.All(t, "", "\x00\x01\x02\x03\x08\x09aA_\x40\x41\x80", 5); right < 150 {
		t.Error("right:", right)
	}
}

// TestReadAny: P10.3: any paths are written and read; bytes that were changed somewhere, as the model says.
func TestReadAny(t *testing.T) {
	r := chance()
	count := map[bool]int{}
	for range 20000 {
		p := somePath(r, 9)
		if !wantRight(p) {
			code.Refused(t, "one that isn't right", p, api.ErrArg)
			continue
		}
		b, e := code.Encode(p)
		if q := Read(pack.NewReader(b)); e != nil || !slices.Equal(p, q) {
			t.Fatalf("Read of %x: %v, not %v", b, q, p)
		}
		count[code.Changed(t, r.IntN, b, r.IntN(len(b)))]++
	}
	if count[true] < 1000 || count[false] < 1000 {
		t.Errorf("%v", count)
	}
}
