package value

import (
	"bytes"
	"fmt"
	"math"
	"slices"
	"strings"
	"testing"

	"dioptre/api"
	"dioptre/fault"
	"dioptre/pack"
)

// valueBytes are right values, and their bytes.
var valueBytes = []struct {
	v api.Value
	b string
}{
	{truth(0), "\x01\x00"},
	{truth(1), "\x01\x01"},
	{num(0), "\x02\x00"},
	{num(5), "\x02\x0a"},
	{num(-1), "\x02\x01"},
	{num(150), "\x02\xac\x02"},
	{num(math.MaxInt), "\x02\xfe\xff\xff\xff\xff\xff\xff\xff\xff\x01"},
	{num(math.MinInt), "\x02\xff\xff\xff\xff\xff\xff\xff\xff\xff\x01"},
	{text(""), "\x03\x00"},
	{text("A \xff"), "\x03\x03A \xff"},
	{text(strings.Repeat("\x80", 64)), "\x03\x40" + strings.Repeat("\x80", 64)},
	{word("a"), "\x04\x01a"},
	{word("abcdefghij_9"), "\x04\x0cabcdefghij_9"},
	{record(nil), "\x05\x00"},
	{record([]string{"a", "b"}, truth(1), num(5)), "\x05\x02\x01a\x01\x01\x01b\x02\x0a"},
	{record([]string{"a", "aa"}, record([]string{"x"}, text("y")), list(nil)), "\x05\x02\x01a\x05\x01\x01x\x03\x01y\x02aa\x06\x00"},
	{record(eight, many(8)...), "\x05\x08\x01a\x02\x00\x01b\x02\x02\x01c\x02\x04\x01d\x02\x06\x01e\x02\x08\x01f\x02\x0a\x01g\x02\x0c\x01h\x02\x0e"},
	{list(nil), "\x06\x00"},
	{list([]uint64{9, 300}, truth(0), word("b")), "\x06\x02\x09\x01\x00\xac\x02\x04\x01b"},
	{list([]uint64{math.MaxUint64}, num(1)), "\x06\x01\xff\xff\xff\xff\xff\xff\xff\xff\xff\x01\x02\x02"},
	{inLists(num(5), 4), "\x06\x01\x01\x06\x01\x01\x06\x01\x01\x06\x01\x01\x02\x0a"},
	{inRecords(list(nil), 4), "\x05\x01\x01a\x05\x01\x01a\x05\x01\x01a\x05\x01\x01a\x06\x00"},
}

// TestBytes: P8.2, P8.4: the bytes of each kind; they are decoded.
func TestBytes(t *testing.T) {
	for _, c := range valueBytes {
		b, e := Encode(c.v)
		if e != nil || string(b) != c.b {
			t.Errorf("Encode of %v: %x %v, not %x", c.v, b, e, c.b)
		}
		v, e := Decode([]byte(c.b))
		if e != nil || !equal(v, c.v) {
			t.Errorf("Decode of %x: %v %v", c.b, v, e)
		}
	}
}

// checkDecode: Decode, and Read behind other bytes, say what the model says; what is decoded has just these bytes.
func checkDecode(t *testing.T, b []byte) (right bool) {
	t.Helper()
	want, size, w := wantRead(b)
	checkReadAt(t, b, want, size, w)
	if w == (wrong{}) && size < len(b) {
		want, w = api.Value{}, wrong{api.ErrForm, size}
	}
	v, e := Decode(b)
	if w != (wrong{}) {
		checkError(t, fmt.Sprintf("Decode of %x", b), e, w.code, w.place)
	}
	if !equal(v, want) {
		t.Errorf("Decode of %x: %v, not %v", b, v, want)
	}
	if w != (wrong{}) {
		return false
	}
	again, e2 := Encode(v)
	if e != nil || e2 != nil || !Right(v) || !bytes.Equal(again, b) {
		t.Errorf("Decode of %x: %v, Encode %x %v", b, e, again, e2)
	}
	return true
}

// checkReadAt: Read, of a reader that stands behind two bytes, tells this, and stands behind it, or where it is wrong.
func checkReadAt(t *testing.T, b []byte, want api.Value, size int, w wrong) {
	t.Helper()
	r := pack.NewReader(append([]byte{7, 7}, b...))
	r.Raw(2)
	v := Read(r)
	if !equal(v, want) {
		t.Errorf("Read of %x: %v, not %v", b, v, want)
	}
	if w == (wrong{}) {
		if r.Err() != nil || r.At() != 2+size {
			t.Errorf("Read of %x: %v, at %d", b, r.Err(), r.At())
		}
		return
	}
	checkError(t, fmt.Sprintf("Read of %x", b), r.Err(), w.code, 2+w.place)
	if r.At() != 2+w.place {
		t.Errorf("Read of %x: at %d", b, r.At())
	}
}

// TestCut: P8.2: bytes that are cut off anywhere, and bytes that are left over.
func TestCut(t *testing.T) {
	for _, c := range valueBytes {
		b := []byte(c.b)
		if !checkDecode(t, b) {
			t.Errorf("%x isn't right", b)
		}
		for n := range len(b) {
			if checkDecode(t, b[:n]) {
				t.Errorf("%x of %x is right", b[:n], b)
			}
			if _, e := Decode(b[:n]); fault.Code(e) != api.ErrForm {
				t.Errorf("Decode of %x: %v", b[:n], e)
			}
		}
		for _, rest := range []string{"\x00", "\x01\x00", "\xff", c.b} {
			_, e := Decode([]byte(c.b + rest))
			checkError(t, fmt.Sprintf("%x, and %x left", b, rest), e, api.ErrForm, len(b))
			checkDecode(t, []byte(c.b+rest))
		}
	}
}

// wrongBytes are bytes, and what is wrong with them, in which place.
var wrongBytes = []struct {
	name, b string
	code    api.Errno
	place   int
}{
	{"kind 0", "\x00", api.ErrKind, 1},
	{"kind 7", "\x07\x00", api.ErrKind, 1},
	{"kind 255", "\xff", api.ErrKind, 1},
	{"kind 129", "\x81\x00\x00", api.ErrKind, 1},
	{"Bool of 2", "\x01\x02", api.ErrForm, 1},
	{"Int, too long", "\x02\x80\x00", api.ErrForm, 1},
	{"Int, above", "\x02\xff\xff\xff\xff\xff\xff\xff\xff\xff\x02", api.ErrForm, 1},
	{"text of 65", "\x03\x41" + strings.Repeat("x", 65), api.ErrLong, 1},
	{"text of 65, fewer left", "\x03\x41", api.ErrLong, 1},
	{"text of very many", "\x03\xff\xff\xff\xff\xff\xff\xff\xff\xff\x01", api.ErrLong, 1},
	{"word, no number", "\x04\x80\x00", api.ErrForm, 1},
	{"word of 65", "\x04\x41" + strings.Repeat("A", 65), api.ErrLong, 1},
	{"no word", "\x04\x00", api.ErrForm, 2},
	{"great word", "\x04\x02aA", api.ErrForm, 4},
	{"word of 13", "\x04\x0dabcdefghijklm", api.ErrForm, 15},
	{"word of 64", "\x04\x40" + strings.Repeat("x", 64), api.ErrForm, 66},
	{"record, no number", "\x05\x80\x00", api.ErrForm, 1},
	{"nine fields", "\x05\x09", api.ErrLong, 2},
	{"very many fields", "\x05\xff\xff\xff\xff\xff\xff\xff\xff\xff\x01", api.ErrLong, 11},
	{"a name of 65", "\x05\x01\x41" + strings.Repeat("x", 65), api.ErrLong, 2},
	{"no name", "\x05\x01\x00\x02\x00", api.ErrForm, 3},
	{"a great name", "\x05\x01\x01A\x02\x00", api.ErrForm, 4},
	{"a name of 13", "\x05\x01\x0dabcdefghijklm\x00", api.ErrForm, 16},
	{"a field of no kind", "\x05\x01\x01a\x00", api.ErrKind, 5},
	{"a wrong field", "\x05\x01\x01a\x01\x02", api.ErrForm, 5},
	{"the same name", "\x05\x02\x01a\x02\x00\x01a\x00", api.ErrForm, 8},
	{"a name that falls", "\x05\x02\x01b\x02\x00\x01a\x00", api.ErrForm, 8},
	{"a shorter name", "\x05\x02\x02ab\x02\x00\x01a\x00", api.ErrForm, 9},
	{"a wrong part ahead of a wrong name", "\x05\x02\x01b\x02\x80\x00\x01a\x00", api.ErrForm, 5},
	{"13 elements", "\x06\x0d", api.ErrLong, 2},
	{"very many elements", "\x06\x80\x80\x01\x01", api.ErrLong, 4},
	{"an element's number", "\x06\x01\x80\x00", api.ErrForm, 2},
	{"the number 0", "\x06\x01\x00\x00", api.ErrForm, 3},
	{"a number twice", "\x06\x02\x05\x02\x00\x05\x00", api.ErrForm, 6},
	{"a number twice, apart", "\x06\x03\x05\x02\x00\x06\x02\x00\x05\x00", api.ErrForm, 9},
	{"a long number twice", "\x06\x02\xac\x02\x02\x00\xac\x02\x00", api.ErrForm, 8},
	{"an element of no kind", "\x06\x01\x05\x09", api.ErrKind, 4},
	{"a wrong element ahead of a number twice", "\x06\x02\x05\x01\x02\x05\x00", api.ErrForm, 4},
	{"within", "\x06\x01\x05\x05\x01\x01a\x06\x01\x00", api.ErrForm, 10},
	{"ahead of what is left over", "\x01\x02\x00", api.ErrForm, 1},
	{"six deep, lists", "\x06\x01\x01\x06\x01\x01\x06\x01\x01\x06\x01\x01\x06\x01\x01\x02\x00", api.ErrDeep, 15},
	{"six deep, behind", "\x06\x01\x01\x06\x01\x01\x06\x01\x01\x06\x01\x01\x06\x02\x01", api.ErrDeep, 15},
	{"the sixth one's number first", "\x06\x01\x01\x06\x01\x01\x06\x01\x01\x06\x01\x01\x06\x01\x00\x02\x00", api.ErrForm, 15},
	{"a wrong name, five deep", "\x06\x01\x01\x06\x01\x01\x06\x01\x01\x06\x01\x01\x05\x01\x00\x02\x00", api.ErrForm, 15},
	{"nine fields, five deep", "\x06\x01\x01\x06\x01\x01\x06\x01\x01\x06\x01\x01\x05\x09", api.ErrLong, 14},
}

// cutBytes are bytes that are wrong by where they end.
var cutBytes = []struct {
	name, b string
	place   int
}{
	{"none", "", 0},
	{"Bool of none", "\x01", 1},
	{"Int of none", "\x02", 1},
	{"Int that goes on", "\x02\xff\xff", 1},
	{"text, no number", "\x03\x80", 1},
	{"text, fewer left", "\x03\x02a", 1},
	{"text, none left", "\x03\x40", 1},
	{"word, no number", "\x04", 1},
	{"word, fewer left", "\x04\x02a", 1},
	{"record, no number", "\x05", 1},
	{"record, a number that goes on", "\x05\x80", 1},
	{"a name's number", "\x05\x01\x80", 2},
	{"a name, fewer left", "\x05\x01\x03aa", 2},
	{"a field without a part", "\x05\x01\x01a", 4},
	{"a record that ends", "\x05\x02\x01a\x02\x00", 6},
	{"list, no number", "\x06\x80", 1},
	{"an element's number", "\x06\x01\x80", 2},
	{"an element without a part", "\x06\x01\x05", 3},
	{"a list that ends", "\x06\x02\x05\x02\x00", 5},
}

// TestErrors: P8.2: each error, in its place, the first one from the left.
func TestErrors(t *testing.T) {
	check := func(name, b string, code api.Errno, place int) {
		t.Helper()
		v, e := Decode([]byte(b))
		checkError(t, name, e, code, place)
		if !equal(v, api.Value{}) {
			t.Errorf("%s: %v", name, v)
		}
		checkDecode(t, []byte(b))
	}
	for _, c := range cutBytes {
		check(c.name, c.b, api.ErrForm, c.place)
	}
	for _, c := range wrongBytes {
		for _, rest := range []string{"", "\x00", "\x09\x09"} {
			check(c.name, c.b+rest, c.code, c.place)
		}
	}
}

// TestTooDeep: P8.2: a value that lies six deep, whatever its kind's byte is, and if there is none.
func TestTooDeep(t *testing.T) {
	for name, front := range map[string]string{
		"lists":   strings.Repeat("\x06\x01\x01", 5),
		"records": strings.Repeat("\x05\x01\x01a", 5),
		"mixed":   "\x05\x01\x01a\x06\x02\x01\x02\x00\x07\x05\x01\x02zz\x06\x01\x09\x06\x01\x09",
	} {
		rests := []string{"", "\x01\x00", "\x01\x02"}
		for c := range 256 {
			rests = append(rests, string([]byte{byte(c)}), string([]byte{byte(c), 0}))
		}
		for _, rest := range rests {
			_, e := Decode([]byte(front + rest))
			checkError(t, fmt.Sprintf("%s: %x", name, rest), e, api.ErrDeep, len(front))
			checkDecode(t, []byte(front+rest))
		}
	}
}

// TestDecodeAll: P8.2, P8.4: all bytes up to five of those that say something, as the model says.
func TestDecodeAll(t *testing.T) {
	letters := []byte{0, 1, 2, 3, 4, 5, 6, 7, 'a', 'b', 0x80}
	all := [][]byte{nil}
	right := 0
	for len(all) > 0 {
		b := all[0]
		all = all[1:]
		if checkDecode(t, b) {
			right++
		}
		for _, c := range letters {
			if len(b) < 5 {
				all = append(all, append(slices.Clone(b), c))
			}
		}
	}
	if right < 300 {
		t.Error("right:", right)
	}
}

// TestDecodeAny: P8.2, P8.4: bytes of any values, and such as were changed somewhere, as the model says.
func TestDecodeAny(t *testing.T) {
	r := chance()
	count := map[bool]int{}
	for range 20000 {
		v := someValue(r, 5)
		b, e := Encode(v)
		back, e2 := Decode(b)
		if e != nil || e2 != nil || !equal(back, v) {
			t.Fatalf("%v: %x %v, decoded %v %v", v, b, e, back, e2)
		}
		for range 1 + r.IntN(2) {
			i := r.IntN(len(b) + 1)
			switch r.IntN(4) {
			case 0:
				b = slices.Insert(b, i, byte(r.IntN(9)))
			case 1:
				b = slices.Insert(b, i, byte(r.Uint32()))
			case 2:
				b = slices.Delete(b, max(i-1, 0), i)
			default:
				if i < len(b) {
					b[i] ^= 1 << r.IntN(8)
				}
			}
		}
		count[checkDecode(t, b)]++
	}
	if count[true] < 1000 || count[false] < 1000 {
		t.Errorf("%v", count)
	}
}

// long is a right value of that many bytes, from 4043 to 4107: five lists of 807 bytes, and a text.
func long(n int) api.Value {
	v := api.Value{Kind: api.List}
	for i := range 5 {
		inner := api.Value{Kind: api.List}
		for k := range 12 {
			inner.Ids, inner.Parts = append(inner.Ids, uint64(k+1)), append(inner.Parts, text(strings.Repeat("x", 64)))
		}
		v.Ids, v.Parts = append(v.Ids, uint64(i+1)), append(v.Parts, inner)
	}
	last := list([]uint64{1}, text(strings.Repeat("y", n-4043)))
	v.Ids, v.Parts = append(v.Ids, 6), append(v.Parts, last)
	return v
}

// TestLong: P8.2: values, and bytes, of 4096 and 4097 bytes.
func TestLong(t *testing.T) {
	for n := 4090; n <= 4102; n++ {
		v := long(n)
		b, e := Encode(v)
		if n <= 4096 {
			back, e2 := Decode(b)
			if e != nil || e2 != nil || len(b) != n || !equal(back, v) {
				t.Errorf("%d bytes: %d, %v, %v", n, len(b), e, e2)
			}
			continue
		}
		checkError(t, "Encode", e, api.ErrLong, -1)
		if len(b) > 0 || !Right(v) {
			t.Errorf("%d bytes: %x", n, b)
		}
		v.Parts[5].Parts[0].N = 1
		_, e = Encode(v)
		checkError(t, "Encode of a long one that isn't right", e, api.ErrArg, -1)
	}
	b, _ := Encode(long(4096))
	for _, c := range []struct {
		b     []byte
		code  api.Errno
		place int
	}{
		{append(b[:4096:4096], 0), api.ErrLong, -1},
		{b[:4095], api.ErrForm, 4042},
		{make([]byte, 4096), api.ErrKind, 1},
		{make([]byte, 4097), api.ErrLong, -1},
		{append([]byte{1, 1}, make([]byte, 4094)...), api.ErrForm, 2},
		{append([]byte{1, 1}, make([]byte, 4095)...), api.ErrLong, -1},
		{make([]byte, 100000), api.ErrLong, -1},
	} {
		v, e := Decode(c.b)
		checkError(t, fmt.Sprintf("%d bytes", len(c.b)), e, c.code, c.place)
		if !equal(v, api.Value{}) {
			t.Errorf("%d bytes: %v", len(c.b), v)
		}
	}
}

// TestReadLong: P8.2: a reader's bytes may be any number.
func TestReadLong(t *testing.T) {
	b, _ := Encode(long(4096))
	five := b[2 : 2+5*807]
	all := append([]byte{6, 10}, five...)
	for i := range 5 { // the same five elements, by other numbers
		part := slices.Clone(five[807*i : 807*(i+1)])
		part[0] = byte(6 + i)
		all = append(all, part...)
	}
	r := pack.NewReader(append(all, 9))
	if v := Read(r); len(v.Parts) != 10 || r.Err() != nil || r.At() != len(all) || len(all) < 8000 {
		t.Error("Read of many bytes:", len(v.Parts), r.Err(), r.At(), len(all))
	}
}

// TestBrokenReader: P8.2: a broken reader stays so, and zero is told; of a nil one, too.
func TestBrokenReader(t *testing.T) {
	for _, c := range valueBytes {
		r := pack.NewReader([]byte("\x09" + c.b))
		r.Byte()
		r.Fail(api.ErrSign)
		for range 2 {
			if v := Read(r); !equal(v, api.Value{}) {
				t.Errorf("Read of a broken reader: %v", v)
			}
			checkError(t, "broken", r.Err(), api.ErrSign, 1)
		}
		if r.At() != 1 {
			t.Error("a broken reader stands at", r.At())
		}
	}
	r := pack.NewReader([]byte("\x01\x02\x01\x01"))
	for range 3 {
		Read(r)
		checkError(t, "broken by Read", r.Err(), api.ErrForm, 1)
	}
	if v := Read(nil); !equal(v, api.Value{}) {
		t.Error("Read of nil:", v)
	}
	if v := Read(pack.NewReader(nil)); !equal(v, api.Value{}) {
		t.Error("Read of nothing:", v)
	}
}

// TestReadSeveral: P8.2: values one behind the other.
func TestReadSeveral(t *testing.T) {
	var all []byte
	for _, c := range valueBytes {
		all = append(all, c.b...)
	}
	r := pack.NewReader(all)
	for _, c := range valueBytes {
		if v := Read(r); !equal(v, c.v) {
			t.Errorf("Read: %v, not %v", v, c.v)
		}
	}
	if r.End() != nil {
		t.Error(r.End())
	}
}

// TestBytesOwn: bytes that are handed in stay as they are, their spare room, too, and aren't kept; those that are told are new.
func TestBytesOwn(t *testing.T) {
	for _, c := range valueBytes {
		b := append([]byte(c.b), "spare"...)
		v, _ := Decode(b[:len(c.b)])
		if string(b) != c.b+"spare" {
			t.Errorf("Decode of %x: %x", c.b, b)
		}
		clear(b)
		if !equal(v, c.v) {
			t.Errorf("Decode of %x keeps its bytes: %v", c.b, v)
		}
		checkOwn(t, "Encode", c.v, c.v, func(v, _ api.Value) api.Value {
			b, _ := Encode(v)
			clear(b)
			back, _ := Encode(v)
			return text(string(back))
		})
	}
}
