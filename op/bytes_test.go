package op

import (
	"bytes"
	"fmt"
	"math"
	"slices"
	"strings"
	"testing"

	"dioptre/api"
	"dioptre/fault"
	"dioptre/pack"
	"dioptre/sample"
)

// opBytes are right operations, and their bytes.
var opBytes = []struct {
	o api.Op
	b string
}{
	{set(nil, num(5)), "\x01\x00\x02\x0a"},
	{set(steps("a"), truth(1)), "\x01\x01\x01a\x01\x01"},
	{set(steps("ab", 300), text("xy")), "\x01\x02\x02ab\x00\xac\x02\x03\x02xy"},
	{set(nil, record([]string{"a", "b"}, truth(1), num(5))), "\x01\x00\x05\x02\x01a\x01\x01\x01b\x02\x0a"},
	{set(steps("a", 1, "b", 2, "c", 3, "d", 4), word("w")), "\x01\x08\x01a\x00\x01\x01b\x00\x02\x01c\x00\x03\x01d\x00\x04\x04\x01w"},
	{insert(nil, 1, 0, num(-1)), "\x02\x00\x01\x00\x02\x01"},
	{insert(steps("l"), 9, 300, list(nil)), "\x02\x01\x01l\x09\xac\x02\x06\x00"},
	{insert(steps(7), math.MaxUint64, 1, list([]uint64{9}, truth(0))), "\x02\x01\x00\x07\xff\xff\xff\xff\xff\xff\xff\xff\xff\x01\x01\x06\x01\x09\x01\x00"},
	{insert(nil, 1, math.MaxUint64, text("")), "\x02\x00\x01\xff\xff\xff\xff\xff\xff\xff\xff\xff\x01\x03\x00"},
	{remove(nil, 1), "\x03\x00\x01"},
	{remove(steps("a", 3), 300), "\x03\x02\x01a\x00\x03\xac\x02"},
	{remove(nil, math.MaxUint64), "\x03\x00\xff\xff\xff\xff\xff\xff\xff\xff\xff\x01"},
	{move(nil, 1, 0), "\x04\x00\x01\x00"},
	{move(steps("l"), 1, 2), "\x04\x01\x01l\x01\x02"},
	{move(steps(2, "l"), 300, math.MaxUint64), "\x04\x02\x00\x02\x01l\xac\x02\xff\xff\xff\xff\xff\xff\xff\xff\xff\x01"},
}

// TestBytes: P12.2, P12.3: the bytes of each kind; they are decoded, and written behind others.
func TestBytes(t *testing.T) {
	for _, c := range opBytes {
		if got := wantBytes(c.o); string(got) != c.b {
			t.Errorf("the model's bytes of %v: %x", c.o, got)
		}
		o := roomyOp(c.o)
		kept := wholeOp(o)
		b, e := Encode(o)
		if e != nil || string(b) != c.b {
			t.Errorf("Encode of %v: %x %v, not %x", c.o, b, e, c.b)
		}
		var w pack.Writer
		w.Byte(9)
		Write(&w, o)
		w.Byte(8)
		if got := string(w.Out()); got != "\x09"+c.b+"\x08" {
			t.Errorf("Write of %v: %x", c.o, got)
		}
		if !equal(wholeOp(o), kept) {
			t.Errorf("Encode, Write have changed %v", o)
		}
		got, e := Decode([]byte(c.b))
		if e != nil || !equal(got, c.o) || !Same(got, c.o) {
			t.Errorf("Decode of %x: %v %v", c.b, got, e)
		}
		checkDecode(t, []byte(c.b))
	}
}

// TestBytesWrong: P12.2: of an operation that isn't right there are no bytes, and nothing is written.
func TestBytesWrong(t *testing.T) {
	check := func(o api.Op, code api.Errno) {
		t.Helper()
		b, e := Encode(o)
		checkCode(t, "Encode", e, code)
		var w pack.Writer
		w.Byte(9)
		Write(&w, o)
		if len(b) > 0 || string(w.Out()) != "\x09" {
			t.Errorf("Encode, Write of %v: %x, %x", o, b, w.Out())
		}
		Write(nil, o)
	}
	for _, c := range checks {
		if c.code == api.ErrArg {
			check(c.o, api.ErrArg)
		}
	}
	// ErrArg is named first.
	check(set(steps("A"), large(5000)), api.ErrArg)
	check(insert(nil, 3, 3, large(5000)), api.ErrArg)
	check(api.Op{Kind: api.Delete, Id: 1, Value: large(5000)}, api.ErrArg)
	for _, n := range []int{4097, 5000, 9000} {
		check(set(nil, large(n)), api.ErrLong)
		check(insert(steps("l"), 1, 0, large(n)), api.ErrLong)
	}
	Write(nil, set(nil, num(1)))
}

// large is a right value of so many bytes (some 1000 at least).
func large(n int) api.Value {
	v := list(nil)
	for id := uint64(1); n-sizeOf(v) > 800; id++ {
		x := list(nil)
		for i := range uint64(12) {
			x.Ids, x.Parts = append(x.Ids, i+1), append(x.Parts, text(strings.Repeat("x", 60)))
		}
		v.Ids, v.Parts = append(v.Ids, id), append(v.Parts, x)
	}
	x := list(nil)
	v.Ids, v.Parts = append(v.Ids, 12), append(v.Parts, x)
	for id := uint64(1); sizeOf(v) < n; id++ {
		s := text(strings.Repeat("y", max(0, min(57, n-sizeOf(v)-3))))
		x.Ids, x.Parts = append(x.Ids, id), append(x.Parts, s)
		v.Parts[len(v.Parts)-1] = x
	}
	return v
}

// sizeOf is how many bytes a value of lists of texts has.
func sizeOf(v api.Value) int {
	if v.Kind == api.Text {
		return 2 + len(v.S)
	}
	n := 2
	for _, x := range v.Parts {
		n += 1 + sizeOf(x)
	}
	return n
}

// TestLong: P12.2: at most MaxBytes bytes, all of the operation's counted.
func TestLong(t *testing.T) {
	for _, ahead := range []api.Op{
		set(nil, num(0)), set(steps("abc", 5), num(0)), insert(nil, 1, 0, num(0)), insert(steps("l", 300, "abcdefghijkl"), 300, math.MaxUint64, num(0)),
	} {
		without := len(wantBytes(ahead)) - 2
		for size := 4090; size < 4100; size++ {
			o := ahead
			o.Value = large(size - without)
			want := wantBytes(o)
			if len(want) != size && want != nil {
				t.Fatal("not so many bytes:", len(want), size)
			}
			b, e := Encode(o)
			var w pack.Writer
			Write(&w, o)
			if !bytes.Equal(w.Out(), b) {
				t.Errorf("Write of %d bytes: %d", size, len(w.Out()))
			}
			if size > 4096 {
				checkCode(t, fmt.Sprintf("Encode of %d bytes", size), e, api.ErrLong)
				if len(b) > 0 {
					t.Errorf("Encode of %d bytes: %x", size, b)
				}
				checkLong(t, o, want)
				continue
			}
			if e != nil || !bytes.Equal(b, want) {
				t.Errorf("Encode of %d bytes: %v", size, e)
			}
			checkDecode(t, b)
		}
	}
	for _, b := range [][]byte{make([]byte, 4097), slices.Repeat([]byte("\x04"), 4097), append([]byte("\x04\x00\x01\x02"), make([]byte, 4093)...), make([]byte, 100000)} {
		o, e := Decode(b)
		checkCode(t, "Decode of too many", e, api.ErrLong)
		if !equal(o, api.Op{}) {
			t.Errorf("Decode of too many: %v", o)
		}
	}
	_, e := Decode(append([]byte("\x04\x00\x01\x02"), make([]byte, 4092)...))
	checkError(t, "Decode of 4096, most of them left", e, wrong{api.ErrForm, 4})
}

// checkLong: bytes that are too many are refused as a whole; a reader isn't asked how many stand there.
func checkLong(t *testing.T, o api.Op, b []byte) {
	t.Helper()
	if b == nil {
		return
	}
	got, e := Decode(b)
	checkCode(t, "Decode of too many", e, api.ErrLong)
	if !equal(got, api.Op{}) {
		t.Errorf("Decode of too many: %v", got)
	}
	r := pack.NewReader(b)
	if got := Read(r); r.Err() != nil || !equal(got, o) {
		t.Errorf("Read of many: %v", r.Err())
	}
}

// checkDecode: Decode, and Read behind other bytes, say what the model says; what is decoded has just these bytes.
func checkDecode(t *testing.T, b []byte) (right bool) {
	t.Helper()
	want, size, w := wantRead(b)
	checkReadAt(t, b, want, size, w)
	if w == (wrong{}) && size < len(b) {
		want, w = api.Op{}, wrong{api.ErrForm, size}
	}
	kept := slices.Clone(b)
	o, e := Decode(b)
	if !equal(o, want) || !bytes.Equal(b, kept) {
		t.Errorf("Decode of %x: %v, not %v", kept, o, want)
	}
	if w != (wrong{}) {
		checkError(t, fmt.Sprintf("Decode of %x", b), e, w)
		return false
	}
	again, e2 := Encode(o)
	if e != nil || e2 != nil || !Right(o) || !bytes.Equal(again, b) {
		t.Errorf("Decode of %x: %v, Encode %x %v", b, e, again, e2)
	}
	clear(b)
	if !equal(o, want) {
		t.Errorf("Decode has kept %x", kept)
	}
	copy(b, kept)
	return true
}

// checkReadAt: Read, of a reader that stands behind two bytes, tells this, and stands behind it, or where it is wrong.
func checkReadAt(t *testing.T, b []byte, want api.Op, size int, w wrong) {
	t.Helper()
	r := pack.NewReader(append([]byte{7, 7}, b...))
	r.Raw(2)
	o := Read(r)
	if !equal(o, want) {
		t.Errorf("Read of %x: %v, not %v", b, o, want)
	}
	if w == (wrong{}) {
		if r.Err() != nil || r.At() != 2+size {
			t.Errorf("Read of %x: %v, at %d", b, r.Err(), r.At())
		}
		return
	}
	checkError(t, fmt.Sprintf("Read of %x", b), r.Err(), wrong{w.code, 2 + w.place})
	if r.At() != 2+w.place {
		t.Errorf("Read of %x: at %d", b, r.At())
	}
	if again := Read(r); !equal(again, api.Op{}) || r.At() != 2+w.place || fault.Code(r.Err()) != w.code {
		t.Errorf("Read of a broken reader: %v, %v", again, r.Err())
	}
}

// TestCut: P12.2: bytes that are cut off anywhere, and bytes that are left over.
func TestCut(t *testing.T) {
	for _, c := range opBytes {
		b := []byte(c.b)
		for n := range len(b) {
			_, e := Decode(b[:n])
			if checkDecode(t, b[:n]) || fault.Code(e) != api.ErrForm {
				t.Errorf("Decode of %x of %x: %v", b[:n], b, e)
			}
		}
		for _, rest := range []string{"\x00", "\x01\x00", "\xff", c.b} {
			_, e := Decode([]byte(c.b + rest))
			checkError(t, fmt.Sprintf("%x, and %x left", b, rest), e, wrong{api.ErrForm, len(b)})
			checkDecode(t, []byte(c.b+rest))
		}
	}
}

// wrongBytes are bytes, and what is wrong with them, in which place, whatever stands behind them.
var wrongBytes = []struct {
	name, b string
	code    api.Errno
	place   int
}{
	{"kind 0", "\x00", api.ErrKind, 1},
	{"kind 5", "\x05\x00\x01", api.ErrKind, 1},
	{"kind 129", "\x81\x00\x01", api.ErrKind, 1},
	{"kind 255", "\xff", api.ErrKind, 1},
	{"kind 0 ahead of a wrong path", "\x00\x09", api.ErrKind, 1},
	{"nine steps", "\x01\x09", api.ErrLong, 2},
	{"many steps", "\x03\x80\x01", api.ErrLong, 3},
	{"steps, not short", "\x03\x80\x00\x01", api.ErrForm, 1},
	{"a step that is no name", "\x04\x01\x01A\x01\x02", api.ErrForm, 4},
	{"a step of 65", "\x04\x01\x41", api.ErrLong, 2},
	{"a step of 0", "\x02\x01\x00\x00\x01\x00\x02\x00", api.ErrForm, 4},
	{"Set, a value of no kind", "\x01\x00\x07", api.ErrKind, 3},
	{"Set, the value 0", "\x01\x00\x00", api.ErrKind, 3},
	{"Set, a wrong value", "\x01\x00\x01\x02", api.ErrForm, 3},
	{"Set, a value's word", "\x01\x01\x01a\x04\x01A", api.ErrForm, 7},
	{"Set, a value six deep", "\x01\x00\x06\x01\x01\x06\x01\x01\x06\x01\x01\x06\x01\x01\x06\x01\x01\x02\x00", api.ErrDeep, 17},
	{"Insert of 0", "\x02\x00\x00\x01\x02\x00", api.ErrForm, 3},
	{"Insert of 0 behind 0", "\x02\x00\x00\x00\x02\x00", api.ErrForm, 3},
	{"Insert, an Id that isn't short", "\x02\x00\x81\x00\x01\x02\x00", api.ErrForm, 2},
	{"Insert, an Id above", "\x02\x00\xff\xff\xff\xff\xff\xff\xff\xff\xff\x02\x00", api.ErrForm, 2},
	{"Insert behind itself", "\x02\x00\x05\x05\x02\x00", api.ErrForm, 4},
	{"Insert behind itself, long", "\x02\x00\xac\x02\xac\x02\x02\x00", api.ErrForm, 6},
	{"Insert, an After that isn't short", "\x02\x00\x05\x85\x00\x02\x00", api.ErrForm, 3},
	{"Insert behind itself, a wrong value", "\x02\x00\x05\x05\x09", api.ErrForm, 4},
	{"Insert, a wrong value", "\x02\x00\x05\x00\x09", api.ErrKind, 5},
	{"Delete of 0", "\x03\x00\x00", api.ErrForm, 3},
	{"Delete of 0 behind a path", "\x03\x01\x01a\x00", api.ErrForm, 5},
	{"Delete, an Id that isn't short", "\x03\x00\x80\x00", api.ErrForm, 2},
	{"Move of 0", "\x04\x00\x00\x01", api.ErrForm, 3},
	{"Move of 0 behind 0", "\x04\x00\x00\x00", api.ErrForm, 3},
	{"Move behind itself", "\x04\x00\x07\x07", api.ErrForm, 4},
	{"Move behind itself, the greatest", "\x04\x00\xff\xff\xff\xff\xff\xff\xff\xff\xff\x01\xff\xff\xff\xff\xff\xff\xff\xff\xff\x01", api.ErrForm, 22},
	{"Move, an After above", "\x04\x00\x07\xff\xff\xff\xff\xff\xff\xff\xff\xff\x03", api.ErrForm, 3},
}

// cutBytes are bytes that are wrong by where they end.
var cutBytes = []struct {
	name, b string
	place   int
}{
	{"none", "", 0},
	{"Set without a path", "\x01", 1},
	{"Delete without a path", "\x03", 1},
	{"a step that lacks", "\x04\x01", 2},
	{"a name that lacks", "\x04\x01\x02a", 2},
	{"Set without a value", "\x01\x00", 2},
	{"Set, a value that ends", "\x01\x00\x02", 3},
	{"Insert without an Id", "\x02\x00", 2},
	{"Insert without an After", "\x02\x00\x01", 3},
	{"Insert, an After that goes on", "\x02\x00\x01\x80", 3},
	{"Insert without a value", "\x02\x00\x01\x00", 4},
	{"Delete without an Id", "\x03\x00", 2},
	{"Delete, an Id that goes on", "\x03\x00\x80", 2},
	{"Move without an Id", "\x04\x00", 2},
	{"Move without an After", "\x04\x00\x01", 3},
}

// TestErrors: P12.2: each error, in its place, the first one from the left.
func TestErrors(t *testing.T) {
	check := func(name, b string, w wrong) {
		t.Helper()
		o, e := Decode([]byte(b))
		checkError(t, name, e, w)
		if !equal(o, api.Op{}) {
			t.Errorf("%s: %v", name, o)
		}
		checkDecode(t, []byte(b))
	}
	for _, c := range cutBytes {
		check(c.name, c.b, wrong{api.ErrForm, c.place})
	}
	for _, c := range wrongBytes {
		for _, rest := range []string{"", "\x00", "\x09\x09"} {
			check(c.name, c.b+rest, wrong{c.code, c.place})
		}
	}
}

// TestReadBroken: P12.2: a reader that was broken ahead of it stays so, and zero is told; nor of a nil one.
func TestReadBroken(t *testing.T) {
	for _, c := range opBytes {
		for _, code := range []api.Errno{api.ErrDeep, api.ErrForm, api.ErrSign} {
			r := pack.NewReader([]byte("\x05" + c.b))
			r.Byte()
			r.Fail(code)
			if o := Read(r); !equal(o, api.Op{}) || r.At() != 1 {
				t.Errorf("Read of a broken reader: %v, at %d", o, r.At())
			}
			checkError(t, "broken", r.Err(), wrong{code, 1})
		}
	}
	if o := Read(nil); !equal(o, api.Op{}) {
		t.Error("Read of a nil reader:", o)
	}
}

// TestReadTwo: P12.2: operations that stand one behind the other are read one by one.
func TestReadTwo(t *testing.T) {
	var w pack.Writer
	for _, c := range opBytes {
		Write(&w, c.o)
		Write(&w, api.Op{})
	}
	r := pack.NewReader(w.Out())
	for _, c := range opBytes {
		if o := Read(r); !equal(o, c.o) {
			t.Errorf("Read: %v, not %v", o, c.o)
		}
	}
	if e := r.End(); e != nil {
		t.Error("at the end:", e)
	}
}

// TestDecodeAll: P12.2: all bytes up to six of those that say something, as the model says.
func TestDecodeAll(t *testing.T) {
	letters := []byte{0, 1, 2, 3, 4, 5, 'a', 0x80}
	all := [][]byte{nil}
	right := 0
	for len(all) > 0 {
		b := all[0]
		all = all[1:]
		if checkDecode(t, b) {
			right++
		}
		for _, c := range letters {
			if len(b) < 6 {
				all = append(all, append(slices.Clone(b), c))
			}
		}
	}
	if right < 500 {
		t.Error("right:", right)
	}
}

// TestBytesAny: P12.2, P12.3: any operations are encoded and decoded; bytes that were changed somewhere, as the model says.
func TestBytesAny(t *testing.T) {
	r := chance()
	count := map[bool]int{}
	for range 15000 {
		s := sample.SomeSchema(r.IntN, 4)
		o := someOp(r, s, sample.SomeFit(r.IntN, s))
		b, e := Encode(o)
		if !wantRight(o) {
			checkCode(t, "Encode", e, api.ErrArg)
			continue
		}
		want := wantBytes(o)
		if want == nil || len(want) > 4096 {
			checkCode(t, "Encode", e, api.ErrLong)
			continue
		}
		if got, e2 := Decode(want); e != nil || !bytes.Equal(b, want) || e2 != nil || !equal(got, o) {
			t.Fatalf("Encode of %v: %x %v, not %x; Decode: %v %v", o, b, e, want, got, e2)
		}
		i := r.IntN(len(b))
		if r.IntN(2) == 0 {
			// Most of what is this chapter's stands at the beginning.
			i = r.IntN(min(6, len(b)))
		}
		switch r.IntN(4) {
		case 0:
			b = slices.Insert(b, i, byte(r.IntN(9)))
		case 1:
			b[i] = byte(r.Uint32())
		case 2:
			b = slices.Delete(b, i, i+1)
		default:
			b[i] ^= 1 << r.IntN(8)
		}
		count[checkDecode(t, b)]++
	}
	if count[true] < 1000 || count[false] < 1000 {
		t.Errorf("%v", count)
	}
}

// TestBytesOwn: what Encode tells is new each time.
func TestBytesOwn(t *testing.T) {
	for _, c := range opBytes {
		b, _ := Encode(c.o)
		clear(b[:cap(b)])
		if again, _ := Encode(c.o); string(again) != c.b {
			t.Errorf("Encode of %v again: %x", c.o, again)
		}
		b = []byte(c.b)
		o, _ := Decode(b)
		scramble(o.Value)
		clear(o.Path[:cap(o.Path)])
		if again, _ := Decode(b); string(b) != c.b || !equal(again, c.o) {
			t.Errorf("Decode of %x again: %v", b, again)
		}
	}
}
