package schema

import (
	"bytes"
	"fmt"
	"slices"
	"strings"
	"testing"

	"dioptre/api"
	"dioptre/fault"
	"dioptre/pack"
)

// schemaBytes are right schemas, and their bytes.
var schemaBytes = []struct {
	s api.Schema
	b string
}{
	{of(api.Bool), "\x01"},
	{of(api.Int), "\x02"},
	{of(api.Text), "\x03"},
	{enum("a"), "\x04\x01\x01a"},
	{enum("red", "blue"), "\x04\x02\x03red\x04blue"},
	{enum("abcdefghij_9", "a"), "\x04\x02\x0cabcdefghij_9\x01a"},
	{enum(eight...), "\x04\x08\x01a\x01b\x01c\x01d\x01e\x01f\x01g\x01h"},
	{record(nil), "\x05\x00"},
	{record([]string{"a", "c"}, of(api.Int), enum("red", "blue")), "\x05\x02\x01a\x02\x01c\x04\x02\x03red\x04blue"},
	{record(eight, many(8)...), "\x05\x08\x01a\x01\x01b\x02\x01c\x03\x01d\x01\x01e\x02\x01f\x03\x01g\x01\x01h\x02"},
	{list(of(api.Bool)), "\x06\x01"},
	{list(record([]string{"a"}, list(enum("x")))), "\x06\x05\x01\x01a\x06\x04\x01\x01x"},
	{inLists(of(api.Text), 4), "\x06\x06\x06\x06\x03"},
	{inRecords(record(nil), 4), "\x05\x01\x01a\x05\x01\x01a\x05\x01\x01a\x05\x01\x01a\x05\x00"},
}

// TestBytes: P9.2, P9.4: the bytes of each kind; they are decoded.
func TestBytes(t *testing.T) {
	for _, c := range schemaBytes {
		b, e := Encode(c.s)
		if e != nil || string(b) != c.b {
			t.Errorf("Encode of %v: %x %v, not %x", c.s, b, e, c.b)
		}
		s, e := Decode([]byte(c.b))
		if e != nil || !equal(s, c.s) {
			t.Errorf("Decode of %x: %v %v", c.b, s, e)
		}
	}
}

// checkDecode: Decode, and Read behind other bytes, say what the model says; what is decoded has just these bytes.
func checkDecode(t *testing.T, b []byte) (right bool) {
	t.Helper()
	want, size, w := wantRead(b)
	checkReadAt(t, b, want, size, w)
	if w == (wrong{}) && size < len(b) {
		want, w = api.Schema{}, wrong{api.ErrForm, size}
	}
	s, e := Decode(b)
	if w != (wrong{}) {
		checkError(t, fmt.Sprintf("Decode of %x", b), e, w.code, w.place)
	}
	if !equal(s, want) {
		t.Errorf("Decode of %x: %v, not %v", b, s, want)
	}
	if w != (wrong{}) {
		return false
	}
	again, e2 := Encode(s)
	if e != nil || e2 != nil || !Right(s) || !bytes.Equal(again, b) {
		t.Errorf("Decode of %x: %v, Encode %x %v", b, e, again, e2)
	}
	return true
}

// checkReadAt: Read, of a reader that stands behind two bytes, tells this, and stands behind it, or where it is wrong.
func checkReadAt(t *testing.T, b []byte, want api.Schema, size int, w wrong) {
	t.Helper()
	r := pack.NewReader(append([]byte{7, 7}, b...))
	r.Raw(2)
	s := Read(r)
	if !equal(s, want) {
		t.Errorf("Read of %x: %v, not %v", b, s, want)
	}
	if w == (wrong{}) {
		if r.Err() != nil || r.At() != 2+size {
			t.Errorf("Read of %x: %v, at %d", b, r.Err(), r.At())
		}
		return
	}
	checkError(t, fmt.Sprintf("Read of %x", b), r.Err(), w.code, 2+w.place)
	if r.At() != 2+w.place {
		t.Errorf("Read of %x: at %d", b, r.At())
	}
}

// TestCut: P9.2: bytes that are cut off anywhere, and bytes that are left over.
func TestCut(t *testing.T) {
	for _, c := range schemaBytes {
		b := []byte(c.b)
		if !checkDecode(t, b) {
			t.Errorf("%x isn't right", b)
		}
		for n := range len(b) {
			if checkDecode(t, b[:n]) {
				t.Errorf("%x of %x is right", b[:n], b)
			}
			if _, e := Decode(b[:n]); fault.Code(e) != api.ErrForm {
				t.Errorf("Decode of %x: %v", b[:n], e)
			}
		}
		for _, rest := range []string{"\x00", "\x01", "\xff", c.b} {
			_, e := Decode([]byte(c.b + rest))
			checkError(t, fmt.Sprintf("%x, and %x left", b, rest), e, api.ErrForm, len(b))
			checkDecode(t, []byte(c.b+rest))
		}
	}
}

// cutBytes are bytes that are wrong by where they end.
var cutBytes = []struct {
	name, b string
	place   int
}{
	{"none", "", 0},
	{"enum, no number", "\x04", 1},
	{"enum, a number that goes on", "\x04\x80", 1},
	{"enum, no word", "\x04\x01", 2},
	{"a word, fewer left", "\x04\x01\x03aa", 2},
	{"an enum that ends", "\x04\x02\x01a", 4},
	{"record, no number", "\x05", 1},
	{"a name, fewer left", "\x05\x01\x03aa", 2},
	{"a field without a part", "\x05\x01\x01a", 4},
	{"a record that ends", "\x05\x02\x01a\x02", 5},
	{"a list without a part", "\x06", 1},
}

// wrongBytes are bytes, and what is wrong with them, in which place, whatever comes behind.
var wrongBytes = []struct {
	name, b string
	code    api.Errno
	place   int
}{
	{"kind 0", "\x00", api.ErrKind, 1},
	{"kind 7", "\x07\x00", api.ErrKind, 1},
	{"kind 255", "\xff", api.ErrKind, 1},
	{"enum, a number that isn't short", "\x04\x80\x00", api.ErrForm, 1},
	{"no words", "\x04\x00", api.ErrForm, 2},
	{"nine words", "\x04\x09", api.ErrLong, 2},
	{"very many words", "\x04\xff\xff\xff\xff\xff\xff\xff\xff\xff\x01", api.ErrLong, 11},
	{"a word of 65", "\x04\x01\x41" + strings.Repeat("A", 65), api.ErrLong, 2},
	{"a word of 64", "\x04\x01\x40" + strings.Repeat("a", 64), api.ErrForm, 67},
	{"a word of 13", "\x04\x01\x0dabcdefghijklm", api.ErrForm, 16},
	{"an empty word", "\x04\x01\x00", api.ErrForm, 3},
	{"a great word", "\x04\x02\x01a\x01B", api.ErrForm, 6},
	{"the same word", "\x04\x02\x01a\x01a", api.ErrForm, 6},
	{"the same word, apart", "\x04\x04\x01b\x01a\x01c\x01b\x01b", api.ErrForm, 10},
	{"the same word ahead of a great one", "\x04\x03\x01a\x01a\x01B", api.ErrForm, 6},
	{"record, a number that isn't short", "\x05\x81\x00", api.ErrForm, 1},
	{"nine fields", "\x05\x09", api.ErrLong, 2},
	{"very many fields", "\x05\x80\x80\x01", api.ErrLong, 4},
	{"a name of 65", "\x05\x01\x41" + strings.Repeat("a", 65), api.ErrLong, 2},
	{"no name", "\x05\x01\x00\x02", api.ErrForm, 3},
	{"a great name", "\x05\x01\x01A\x02", api.ErrForm, 4},
	{"a name of 13", "\x05\x01\x0dabcdefghijklm\x00", api.ErrForm, 16},
	{"a field of no kind", "\x05\x01\x01a\x00", api.ErrKind, 5},
	{"the same name", "\x05\x02\x01a\x02\x01a\x00", api.ErrForm, 7},
	{"a name that falls", "\x05\x02\x01b\x02\x01a\x00", api.ErrForm, 7},
	{"a shorter name", "\x05\x02\x02ab\x02\x01a\x00", api.ErrForm, 8},
	{"a wrong part ahead of a wrong name", "\x05\x02\x01b\x04\x00\x01a\x00", api.ErrForm, 6},
	{"a list of no kind", "\x06\x00", api.ErrKind, 2},
	{"a list of kind 7", "\x06\x07", api.ErrKind, 2},
	{"within", "\x06\x05\x01\x01a\x06\x04\x00", api.ErrForm, 8},
	{"ahead of what is left over", "\x04\x00\x00\x00", api.ErrForm, 2},
	{"six deep", "\x06\x06\x06\x06\x06\x02", api.ErrDeep, 5},
	{"six deep, behind", "\x05\x02\x01a\x02\x01b\x06\x06\x06\x06\x09", api.ErrDeep, 11},
	{"a wrong name, five deep", "\x06\x06\x06\x06\x05\x01\x00\x02", api.ErrForm, 7},
	{"no words, five deep", "\x06\x06\x06\x06\x04\x00", api.ErrForm, 6},
}

// TestErrors: P9.2: each error, in its place, the first one from the left.
func TestErrors(t *testing.T) {
	check := func(name, b string, code api.Errno, place int) {
		t.Helper()
		s, e := Decode([]byte(b))
		checkError(t, name, e, code, place)
		if !equal(s, api.Schema{}) {
			t.Errorf("%s: %v", name, s)
		}
		checkDecode(t, []byte(b))
	}
	for _, c := range cutBytes {
		check(c.name, c.b, api.ErrForm, c.place)
	}
	for _, c := range wrongBytes {
		for _, rest := range []string{"", "\x00", "\x09\x09"} {
			check(c.name, c.b+rest, c.code, c.place)
		}
	}
}

// TestTooDeep: P9.2: a schema that lies six deep, whatever its kind's byte is, and if there is none.
func TestTooDeep(t *testing.T) {
	for name, front := range map[string]string{
		"lists":   strings.Repeat("\x06", 5),
		"records": strings.Repeat("\x05\x01\x01a", 5),
		"mixed":   "\x05\x01\x01a\x06\x05\x02\x01a\x02\x02zz\x06\x06",
	} {
		rests := []string{"", "\x04\x00", "\x04\x01\x01a"}
		for c := range 256 {
			rests = append(rests, string([]byte{byte(c)}))
		}
		for _, rest := range rests {
			_, e := Decode([]byte(front + rest))
			checkError(t, fmt.Sprintf("%s: %x", name, rest), e, api.ErrDeep, len(front))
			checkDecode(t, []byte(front+rest))
		}
	}
	// As many lists as one likes.
	_, e := Decode(bytes.Repeat([]byte{6}, 4096))
	checkError(t, "lists", e, api.ErrDeep, 5)
}

// TestDecodeAll: P9.2, P9.4: all bytes up to six of those that say something, as the model says.
func TestDecodeAll(t *testing.T) {
	letters := []byte{0, 1, 2, 4, 5, 6, 7, 'a', 'b'}
	all := [][]byte{nil}
	right := 0
	for len(all) > 0 {
		b := all[0]
		all = all[1:]
		if checkDecode(t, b) {
			right++
		}
		for _, c := range letters {
			if len(b) < 6 {
				all = append(all, append(slices.Clone(b), c))
			}
		}
	}
	if right < 50 {
		t.Error("right:", right)
	}
}

// TestDecodeAny: P9.2, P9.4: bytes of any schemas, and such as were changed somewhere, as the model says.
func TestDecodeAny(t *testing.T) {
	r := chance()
	count := map[bool]int{}
	for range 20000 {
		s := someSchema(r, 5)
		b, e := Encode(s)
		back, e2 := Decode(b)
		if e != nil || e2 != nil || !equal(back, s) {
			t.Fatalf("%v: %x %v, decoded %v %v", s, b, e, back, e2)
		}
		for range 1 + r.IntN(2) {
			i := r.IntN(len(b) + 1)
			switch r.IntN(4) {
			case 0:
				b = slices.Insert(b, i, byte(r.IntN(9)))
			case 1:
				b = slices.Insert(b, i, byte(r.Uint32()))
			case 2:
				b = slices.Delete(b, max(i-1, 0), i)
			default:
				if i < len(b) {
					b[i] ^= 1 << r.IntN(8)
				}
			}
		}
		count[checkDecode(t, b)]++
	}
	if count[true] < 1000 || count[false] < 1000 {
		t.Errorf("%v", count)
	}
}

// longWords are eight words of 12 bytes.
func longWords() []string {
	var l []string
	for _, letter := range eight {
		l = append(l, "abcdefghijk"+letter)
	}
	return l
}

// long is a right schema of that many bytes, from 4089 to 4100: four records of 868 bytes, and one whose last field's last word is as long as is left.
func long(n int) api.Schema {
	full := enum(longWords()...)
	var parts []api.Schema
	for range 4 {
		parts = append(parts, record(eight, slices.Repeat([]api.Schema{full}, 8)...))
	}
	last := enum(append(longWords()[:5], strings.Repeat("z", n-4088))...)
	parts = append(parts, record(eight[:6], append(slices.Repeat([]api.Schema{full}, 5), last)...))
	return record(eight[:5], parts...)
}

// TestLong: P9.2: schemas, and bytes, of 4096 and 4097 bytes.
func TestLong(t *testing.T) {
	for n := 4089; n <= 4100; n++ {
		s := long(n)
		b, e := Encode(s)
		if n <= 4096 {
			back, e2 := Decode(b)
			if e != nil || e2 != nil || len(b) != n || !equal(back, s) {
				t.Errorf("%d bytes: %d, %v, %v", n, len(b), e, e2)
			}
			continue
		}
		checkError(t, "Encode", e, api.ErrLong, -1)
		if len(b) > 0 || !Right(s) {
			t.Errorf("%d bytes: %x", n, b)
		}
		s.Parts[4].Parts[5].Kind = 7
		_, e = Encode(s)
		checkError(t, "Encode of a long one that isn't right", e, api.ErrArg, -1)
	}
	b, _ := Encode(long(4096))
	for _, c := range []struct {
		b     []byte
		code  api.Errno
		place int
	}{
		{append(b[:4096:4096], 0), api.ErrLong, -1},
		{b[:4095], api.ErrForm, 4087},
		{make([]byte, 4096), api.ErrKind, 1},
		{make([]byte, 4097), api.ErrLong, -1},
		{append([]byte{2}, make([]byte, 4095)...), api.ErrForm, 1},
		{append([]byte{2}, make([]byte, 4096)...), api.ErrLong, -1},
		{make([]byte, 100000), api.ErrLong, -1},
	} {
		s, e := Decode(c.b)
		checkError(t, fmt.Sprintf("%d bytes", len(c.b)), e, c.code, c.place)
		if !equal(s, api.Schema{}) {
			t.Errorf("%d bytes: %v", len(c.b), s)
		}
	}
}

// TestReadLong: P9.2: a reader's bytes may be any number.
func TestReadLong(t *testing.T) {
	b, _ := Encode(long(4096))
	all := append([]byte{5, 8}, b[2:2+4*868]...)
	for i := range 4 { // the same four fields, by other names
		part := slices.Clone(b[2+868*i : 2+868*(i+1)])
		part[1] += 4
		all = append(all, part...)
	}
	r := pack.NewReader(append(all, 9))
	if s := Read(r); len(s.Parts) != 8 || !Right(s) || r.Err() != nil || r.At() != len(all) || len(all) < 6900 {
		t.Error("Read of many bytes:", len(s.Parts), r.Err(), r.At(), len(all))
	}
}

// TestBrokenReader: P9.2: a broken reader stays so, and zero is told; of a nil one, too.
func TestBrokenReader(t *testing.T) {
	for _, c := range schemaBytes {
		r := pack.NewReader([]byte("\x09" + c.b))
		r.Byte()
		r.Fail(api.ErrSign)
		for range 2 {
			if s := Read(r); !equal(s, api.Schema{}) {
				t.Errorf("Read of a broken reader: %v", s)
			}
			checkError(t, "broken", r.Err(), api.ErrSign, 1)
		}
		if r.At() != 1 {
			t.Error("a broken reader stands at", r.At())
		}
	}
	r := pack.NewReader([]byte("\x04\x00\x01\x01"))
	for range 3 {
		Read(r)
		checkError(t, "broken by Read", r.Err(), api.ErrForm, 2)
	}
	if s := Read(nil); !equal(s, api.Schema{}) {
		t.Error("Read of nil:", s)
	}
	if s := Read(pack.NewReader(nil)); !equal(s, api.Schema{}) {
		t.Error("Read of nothing:", s)
	}
}

// TestReadSeveral: P9.2: schemas one behind the other.
func TestReadSeveral(t *testing.T) {
	var all []byte
	for _, c := range schemaBytes {
		all = append(all, c.b...)
	}
	r := pack.NewReader(all)
	for _, c := range schemaBytes {
		if s := Read(r); !equal(s, c.s) {
			t.Errorf("Read: %v, not %v", s, c.s)
		}
	}
	if r.End() != nil {
		t.Error(r.End())
	}
}

// TestBytesOwn: bytes that are handed in stay as they are, their spare room, too, and aren't kept; those that are told are new.
func TestBytesOwn(t *testing.T) {
	for _, c := range schemaBytes {
		b := append([]byte(c.b), "spare"...)
		s, _ := Decode(b[:len(c.b)])
		if string(b) != c.b+"spare" {
			t.Errorf("Decode of %x: %x", c.b, b)
		}
		clear(b)
		if !equal(s, c.s) {
			t.Errorf("Decode of %x keeps its bytes: %v", c.b, s)
		}
		checkOwn(t, "Encode", c.s, c.s, func(s, _ api.Schema) api.Schema {
			b, _ := Encode(s)
			clear(b)
			back, _ := Encode(s)
			return api.Schema{Words: []string{string(back)}}
		})
	}
}
