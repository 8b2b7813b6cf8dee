package path

import (
	"bytes"
	"fmt"
	"math"
	"slices"
	"strings"
	"testing"

	"dioptre/api"
	"dioptre/pack"
)

// pathBytes are right paths, and their bytes.
var pathBytes = []struct {
	p []api.Step
	b string
}{
	{nil, "\x00"},
	{steps("a"), "\x01\x01a"},
	{steps("abcdefghij_9"), "\x01\x0cabcdefghij_9"},
	{steps(1), "\x01\x00\x01"},
	{steps(300), "\x01\x00\xac\x02"},
	{steps(uint64(math.MaxUint64)), "\x01\x00\xff\xff\xff\xff\xff\xff\xff\xff\xff\x01"},
	{steps("a", 3), "\x02\x01a\x00\x03"},
	{steps(3, "a"), "\x02\x00\x03\x01a"},
	{steps("ab", "c", 5, 6), "\x04\x02ab\x01c\x00\x05\x00\x06"},
	{steps("a", 1, "b", 2, "c", 3, "d", 4), "\x08\x01a\x00\x01\x01b\x00\x02\x01c\x00\x03\x01d\x00\x04"},
	{steps("a", "a", "a", "a", "a", "a", "a", "a"), "\x08" + strings.Repeat("\x01a", 8)},
}

// TestWrite: P10.3: the bytes of a right path, behind what was written before; of others nothing.
func TestWrite(t *testing.T) {
	for _, c := range pathBytes {
		var w pack.Writer
		w.Byte(9)
		p := spare(c.p)
		Write(&w, p)
		w.Byte(8)
		if got := string(w.Out()); got != "\x09"+c.b+"\x08" {
			t.Errorf("Write of %v: %x", c.p, got)
		}
		if !slices.Equal(p[:cap(p)], spare(c.p)[:cap(p)]) {
			t.Errorf("Write has changed %v", p)
		}
	}
	for _, p := range [][]api.Step{
		steps(0), steps("A"), steps("abcdefghijklm"), steps("a b"), steps(api.Step{Name: "a", Id: 1}), steps("a", 1, 0), steps("a", 1, "Z"),
		slices.Repeat(steps("a"), 9), slices.Repeat(steps(1), 100),
	} {
		var w pack.Writer
		Write(&w, p)
		if len(w.Out()) > 0 {
			t.Errorf("Write of %v, which isn't right: %x", p, w.Out())
		}
		w.Byte(7)
		Write(&w, p)
		if string(w.Out()) != "\x07" {
			t.Errorf("Write of %v, which isn't right, behind 7: %x", p, w.Out())
		}
	}
	Write(nil, steps("a", 1))
	Write(nil, steps(0))
}

// checkRead: Read, behind two bytes, says what the model says; what is read has just these bytes.
func checkRead(t *testing.T, b []byte) (right bool) {
	t.Helper()
	want, size, w := wantRead(b)
	r := pack.NewReader(append([]byte{7, 7}, b...))
	r.Raw(2)
	p := Read(r)
	if !slices.Equal(p, want) {
		t.Errorf("Read of %x: %v, not %v", b, p, want)
	}
	if w != (wrong{}) {
		checkError(t, fmt.Sprintf("Read of %x", b), r.Err(), wrong{w.code, 2 + w.place})
		checkBroken(t, r)
		return false
	}
	if r.Err() != nil || r.At() != 2+size || !Right(p) {
		t.Errorf("Read of %x: %v, at %d, %v", b, r.Err(), r.At(), p)
	}
	var again pack.Writer
	Write(&again, p)
	if !bytes.Equal(again.Out(), b[:size]) {
		t.Errorf("Read of %x: %v, written again %x", b, p, again.Out())
	}
	return true
}

// checkBroken: a broken reader stays so, and none is told.
func checkBroken(t *testing.T, r *pack.Reader) {
	t.Helper()
	at, e := r.At(), r.Err().Error()
	if p := Read(r); len(p) > 0 || r.At() != at || r.Err().Error() != e {
		t.Errorf("Read of a reader that is broken (%s): %v, %v", e, p, r.Err())
	}
}

// TestRead: P10.3: paths are read, also if they are cut off anywhere, and others stand behind them.
func TestRead(t *testing.T) {
	for _, c := range pathBytes {
		r := pack.NewReader([]byte(c.b + "\x05"))
		if p := Read(r); !slices.Equal(p, c.p) || r.Err() != nil || r.At() != len(c.b) {
			t.Errorf("Read of %x: %v %v, at %d", c.b, p, r.Err(), r.At())
		}
		for n := range len(c.b) + 1 {
			if checkRead(t, []byte(c.b[:n])) != (n == len(c.b)) {
				t.Errorf("Read of %x of %x", c.b[:n], c.b)
			}
			checkRead(t, []byte(c.b[:n]+"\x00\x00"))
		}
	}
}

// wrongReads are bytes, and what is wrong with them, in which place, whatever stands behind them.
var wrongReads = []struct {
	name, b string
	code    api.Errno
	place   int
}{
	{"a number that isn't short", "\x81\x00\x01a", api.ErrForm, 0},
	{"a number above", "\xff\xff\xff\xff\xff\xff\xff\xff\xff\x02", api.ErrForm, 0},
	{"nine steps", "\x09" + strings.Repeat("\x01a", 9), api.ErrLong, 1},
	{"nine steps, cut off", "\x09", api.ErrLong, 1},
	{"128 steps", "\x80\x01", api.ErrLong, 2},
	{"very many steps", "\xff\xff\xff\xff\xff\xff\xff\xff\xff\x01", api.ErrLong, 10},
	{"a name's number that isn't short", "\x01\x81\x00a", api.ErrForm, 1},
	{"a name of 65", "\x01\x41" + strings.Repeat("a", 65), api.ErrLong, 1},
	{"a name of 65, cut off", "\x01\x41", api.ErrLong, 1},
	{"a name of very many", "\x01\xff\xff\xff\xff\xff\xff\xff\xff\xff\x01", api.ErrLong, 1},
	{"a name of 64", "\x01\x40" + strings.Repeat("a", 64), api.ErrForm, 66},
	{"a name of 13", "\x01\x0dabcdefghijklm", api.ErrForm, 15},
	{"a great letter", "\x01\x01A", api.ErrForm, 3},
	{"a slash", "\x01\x03a/b\x00", api.ErrForm, 5},
	{"the byte 0", "\x01\x01\x00", api.ErrForm, 3},
	{"an element's number that isn't short", "\x01\x00\x81\x00", api.ErrForm, 2},
	{"an element's number above", "\x01\x00\xff\xff\xff\xff\xff\xff\xff\xff\xff\x02", api.ErrForm, 2},
	{"the number 0", "\x01\x00\x00", api.ErrForm, 3},
	{"the number 0, more behind", "\x02\x00\x00\x01A", api.ErrForm, 3},
	{"a second name that is none", "\x02\x01a\x01A", api.ErrForm, 5},
	{"a second number that is 0", "\x02\x00\x05\x00\x00", api.ErrForm, 5},
	{"a name that is none ahead of one that is too long", "\x02\x01A\x41", api.ErrForm, 3},
	{"the eighth one", "\x08" + strings.Repeat("\x01a", 7) + "\x00\x00", api.ErrForm, 17},
}

// cutReads are bytes that are wrong by where they end.
var cutReads = []struct {
	name, b string
	place   int
}{
	{"none", "", 0},
	{"a number that goes on", "\x80", 0},
	{"no step", "\x01", 1},
	{"a name's number that goes on", "\x01\x80", 1},
	{"a name, none left", "\x01\x01", 1},
	{"a name, fewer left", "\x01\x02a", 1},
	{"a name of 64, fewer left", "\x01\x40" + strings.Repeat("a", 63), 1},
	{"no number", "\x01\x00", 2},
	{"an element's number that goes on", "\x01\x00\xff\xff", 2},
	{"a second step that lacks", "\x02\x01a", 3},
	{"an eighth step that lacks", "\x08" + strings.Repeat("\x00\x01", 7), 15},
}

// TestReadWrong: P10.3: each error, in its place, the first one from the left.
func TestReadWrong(t *testing.T) {
	check := func(name, b string, w wrong) {
		t.Helper()
		r := pack.NewReader([]byte(b))
		if p := Read(r); len(p) > 0 {
			t.Errorf("%s: %v", name, p)
		}
		checkError(t, name, r.Err(), w)
		checkBroken(t, r)
		checkRead(t, []byte(b))
	}
	for _, c := range cutReads {
		check(c.name, c.b, wrong{api.ErrForm, c.place})
	}
	for _, c := range wrongReads {
		for _, rest := range []string{"", "\x00", "\x09\x09"} {
			check(c.name, c.b+rest, wrong{c.code, c.place})
		}
	}
}

// TestReadBroken: P10.3: a reader that was broken ahead of it stays so, and none is told; nor of a nil one.
func TestReadBroken(t *testing.T) {
	for _, c := range pathBytes {
		for _, code := range []api.Errno{api.ErrDeep, api.ErrForm, api.ErrSign} {
			r := pack.NewReader([]byte("\x05" + c.b))
			r.Byte()
			r.Fail(code)
			if p := Read(r); len(p) > 0 || r.At() != 1 {
				t.Errorf("Read of a broken reader: %v, at %d", p, r.At())
			}
			checkError(t, "broken", r.Err(), wrong{code, 1})
		}
	}
	if p := Read(nil); len(p) > 0 {
		t.Error("Read of a nil reader:", p)
	}
}

// TestReadAll: P10.3: all bytes up to five of those that say something, as the model says.
func TestReadAll(t *testing.T) {
	letters := []byte{0, 1, 2, 3, 8, 9, 'a', 'A', '_', 0x40, 0x41, 0x80}
	all := [][]byte{nil}
	right := 0
	for len(all) > 0 {
		b := all[0]
		all = all[1:]
		if checkRead(t, b) {
			right++
		}
		for _, c := range letters {
			if len(b) < 5 {
				all = append(all, append(slices.Clone(b), c))
			}
		}
	}
	if right < 1000 {
		t.Error("right:", right)
	}
}

// TestReadAny: P10.3: any paths are written and read; bytes that were changed somewhere, as the model says.
func TestReadAny(t *testing.T) {
	r := chance()
	count := map[bool]int{}
	for range 20000 {
		p := somePath(r, 9)
		var w pack.Writer
		Write(&w, p)
		b := w.Out()
		if wantRight(p) != (len(b) > 0) {
			t.Fatalf("Write of %v: %x", p, b)
		}
		if len(b) == 0 {
			continue
		}
		if q := Read(pack.NewReader(b)); !slices.Equal(p, q) {
			t.Fatalf("Read of %x: %v, not %v", b, q, p)
		}
		i := r.IntN(len(b))
		switch r.IntN(4) {
		case 0:
			b = slices.Insert(b, i, byte(r.IntN(9)))
		case 1:
			b[i] = byte(r.Uint32())
		case 2:
			b = slices.Delete(b, i, i+1)
		default:
			b[i] ^= 1 << r.IntN(8)
		}
		count[checkRead(t, b)]++
	}
	if count[true] < 1000 || count[false] < 1000 {
		t.Errorf("%v", count)
	}
}
