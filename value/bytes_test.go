package value

import (
	"math"
	"slices"
	"strings"
	"testing"

	"dioptre/api"
	"dioptre/pack"
	"dioptre/trial"
)

// valueBytes are right values, and their bytes.
var valueBytes = []struct {
	v api.Value
	b string
}{
	{truth(0), "\x01\x00"},
	{truth(1), "\x01\x01"},
	{num(0), "\x02\x00"},
	{num(5), "\x02\x0a"},
	{num(-1), "\x02\x01"},
	{num(150), "\x02\xac\x02"},
	{num(math.MaxInt), "\x02\xfe\xff\xff\xff\xff\xff\xff\xff\xff\x01"},
	{num(math.MinInt), "\x02\xff\xff\xff\xff\xff\xff\xff\xff\xff\x01"},
	{text(""), "\x03\x00"},
	{text("A \xff"), "\x03\x03A \xff"},
	{text(strings.Repeat("\x80", 64)), "\x03\x40" + strings.Repeat("\x80", 64)},
	{word("a"), "\x04\x01a"},
	{word("abcdefghij_9"), "\x04\x0cabcdefghij_9"},
	{record(nil), "\x05\x00"},
	{record([]string{"a", "b"}, truth(1), num(5)), "\x05\x02\x01a\x01\x01\x01b\x02\x0a"},
	{record([]string{"a", "aa"}, record([]string{"x"}, text("y")), list(nil)), "\x05\x02\x01a\x05\x01\x01x\x03\x01y\x02aa\x06\x00"},
	{record(eight, many(8)...), "\x05\x08\x01a\x02\x00\x01b\x02\x02\x01c\x02\x04\x01d\x02\x06\x01e\x02\x08\x01f\x02\x0a\x01g\x02\x0c\x01h\x02\x0e"},
	{list(nil), "\x06\x00"},
	{list([]uint64{9, 300}, truth(0), word("b")), "\x06\x02\x09\x01\x00\xac\x02\x04\x01b"},
	{list([]uint64{math.MaxUint64}, num(1)), "\x06\x01\xff\xff\xff\xff\xff\xff\xff\xff\xff\x01\x02\x02"},
	{inLists(num(5), 4), "\x06\x01\x01\x06\x01\x01\x06\x01\x01\x06\x01\x01\x02\x0a"},
	{inRecords(list(nil), 4), "\x05\x01\x01a\x05\x01\x01a\x05\x01\x01a\x05\x01\x01a\x06\x00"},
}

// TestBytes: P8.2, P8.4: the bytes of each kind; they are decoded, those that are cut off, or followed by others, are refused.
func TestBytes(t *testing.T) {
	for _, c := range valueBytes {
		code.Known(t, c.v, c.b)
	}
}

// wrongBytes are bytes, and what is wrong with them, in which place.
var wrongBytes = []struct {
	name, b string
	code    api.Errno
	place   int
}{
	{"kind 0", "\x00", api.ErrKind, 1},
	{"kind 7", "\x07\x00", api.ErrKind, 1},
	{"kind 255", "\xff", api.ErrKind, 1},
	{"kind 129", "\x81\x00\x00", api.ErrKind, 1},
	{"Bool of 2", "\x01\x02", api.ErrForm, 1},
	{"Int, too long", "\x02\x80\x00", api.ErrForm, 1},
	{"Int, above", "\x02\xff\xff\xff\xff\xff\xff\xff\xff\xff\x02", api.ErrForm, 1},
	{"text of 65", "\x03\x41" + strings.Repeat("x", 65), api.ErrLong, 1},
	{"text of 65, fewer left", "\x03\x41", api.ErrLong, 1},
	{"text of very many", "\x03\xff\xff\xff\xff\xff\xff\xff\xff\xff\x01", api.ErrLong, 1},
	{"word, no number", "\x04\x80\x00", api.ErrForm, 1},
	{"word of 65", "\x04\x41" + strings.Repeat("A", 65), api.ErrLong, 1},
	{"no word", "\x04\x00", api.ErrForm, 2},
	{"great word", "\x04\x02aA", api.ErrForm, 4},
	{"word of 13", "\x04\x0dabcdefghijklm", api.ErrForm, 15},
	{"word of 64", "\x04\x40" + strings.Repeat("x", 64), api.ErrForm, 66},
	{"record, no number", "\x05\x80\x00", api.ErrForm, 1},
	{"nine fields", "\x05\x09", api.ErrLong, 2},
	{"very many fields", "\x05\xff\xff\xff\xff\xff\xff\xff\xff\xff\x01", api.ErrLong, 11},
	{"a name of 65", "\x05\x01\x41" + strings.Repeat("x", 65), api.ErrLong, 2},
	{"no name", "\x05\x01\x00\x02\x00", api.ErrForm, 3},
	{"a great name", "\x05\x01\x01A\x02\x00", api.ErrForm, 4},
	{"a name of 13", "\x05\x01\x0dabcdefghijklm\x00", api.ErrForm, 16},
	{"a field of no kind", "\x05\x01\x01a\x00", api.ErrKind, 5},
	{"a wrong field", "\x05\x01\x01a\x01\x02", api.ErrForm, 5},
	{"the same name", "\x05\x02\x01a\x02\x00\x01a\x00", api.ErrForm, 8},
	{"a name that falls", "\x05\x02\x01b\x02\x00\x01a\x00", api.ErrForm, 8},
	{"a shorter name", "\x05\x02\x02ab\x02\x00\x01a\x00", api.ErrForm, 9},
	{"a wrong part ahead of a wrong name", "\x05\x02\x01b\x02\x80\x00\x01a\x00", api.ErrForm, 5},
	{"13 elements", "\x06\x0d", api.ErrLong, 2},
	{"very many elements", "\x06\x80\x80\x01\x01", api.ErrLong, 4},
	{"an element's number", "\x06\x01\x80\x00", api.ErrForm, 2},
	{"the number 0", "\x06\x01\x00\x00", api.ErrForm, 3},
	{"a number twice", "\x06\x02\x05\x02\x00\x05\x00", api.ErrForm, 6},
	{"a number twice, apart", "\x06\x03\x05\x02\x00\x06\x02\x00\x05\x00", api.ErrForm, 9},
	{"a long number twice", "\x06\x02\xac\x02\x02\x00\xac\x02\x00", api.ErrForm, 8},
	{"an element of no kind", "\x06\x01\x05\x09", api.ErrKind, 4},
	{"a wrong element ahead of a number twice", "\x06\x02\x05\x01\x02\x05\x00", api.ErrForm, 4},
	{"within", "\x06\x01\x05\x05\x01\x01a\x06\x01\x00", api.ErrForm, 10},
	{"ahead of what is left over", "\x01\x02\x00", api.ErrForm, 1},
	{"six deep, lists", "\x06\x01\x01\x06\x01\x01\x06\x01\x01\x06\x01\x01\x06\x01\x01\x02\x00", api.ErrDeep, 15},
	{"six deep, behind", "\x06\x01\x01\x06\x01\x01\x06\x01\x01\x06\x01\x01\x06\x02\x01", api.ErrDeep, 15},
	{"the sixth one's number first", "\x06\x01\x01\x06\x01\x01\x06\x01\x01\x06\x01\x01\x06\x01\x00\x02\x00", api.ErrForm, 15},
	{"a wrong name, five deep", "\x06\x01\x01\x06\x01\x01\x06\x01\x01\x06\x01\x01\x05\x01\x00\x02\x00", api.ErrForm, 15},
	{"nine fields, five deep", "\x06\x01\x01\x06\x01\x01\x06\x01\x01\x06\x01\x01\x05\x09", api.ErrLong, 14},
}

// cutBytes are bytes that are wrong by where they end.
var cutBytes = []struct {
	name, b string
	place   int
}{
	{"none", "", 0},
	{"Bool of none", "\x01", 1},
	{"Int of none", "\x02", 1},
	{"Int that goes on", "\x02\xff\xff", 1},
	{"text, no number", "\x03\x80", 1},
	{"text, fewer left", "\x03\x02a", 1},
	{"text, none left", "\x03\x40", 1},
	{"word, no number", "\x04", 1},
	{"word, fewer left", "\x04\x02a", 1},
	{"record, no number", "\x05", 1},
	{"record, a number that goes on", "\x05\x80", 1},
	{"a name's number", "\x05\x01\x80", 2},
	{"a name, fewer left", "\x05\x01\x03aa", 2},
	{"a field without a part", "\x05\x01\x01a", 4},
	{"a record that ends", "\x05\x02\x01a\x02\x00", 6},
	{"list, no number", "\x06\x80", 1},
	{"an element's number", "\x06\x01\x80", 2},
	{"an element without a part", "\x06\x01\x05", 3},
	{"a list that ends", "\x06\x02\x05\x02\x00", 5},
}

// TestErrors: P8.2: each error, in its place, the first one from the left.
func TestErrors(t *testing.T) {
	for _, c := range cutBytes {
		code.Fails(t, c.name, c.b, trial.Wrong{Code: api.ErrForm, Place: c.place})
	}
	for _, c := range wrongBytes {
		for _, rest := range []string{"", "\x00", "\x09\x09"} {
			code.Fails(t, c.name, c.b+rest, trial.Wrong{Code: c.code, Place: c.place})
		}
	}
}

// TestTooDeep: P8.2: a value that lies six deep, whatever its kind's byte is, and if there is none.
func TestTooDeep(t *testing.T) {
	for name, front := range map[string]string{
		"lists":   strings.Repeat("\x06\x01\x01", 5),
		"records": strings.Repeat("\x05\x01\x01a", 5),
		"mixed":   "\x05\x01\x01a\x06\x02\x01\x02\x00\x07\x05\x01\x02zz\x06\x01\x09\x06\x01\x09",
	} {
		rests := []string{"", "\x01\x00", "\x01\x02"}
		for c := range 256 {
			rests = append(rests, string([]byte{byte(c)}), string([]byte{byte(c), 0}))
		}
		for _, rest := range rests {
			code.Fails(t, name, front+rest, trial.Wrong{Code: api.ErrDeep, Place: len(front)})
		}
	}
}

// TestDecodeAll: P8.2, P8.4: all bytes up to five of those that say something, as the model says.
func TestDecodeAll(t *testing.T) {
	if right := code.All(t, "", "\x00\x01\x02\x03\x04\x05\x06\x07ab\x80", 5); right < 300 {
		t.Error("right:", right)
	}
}

// TestDecodeAny: P8.2, P8.4: bytes of any values, and such as were changed somewhere, as the model says.
func TestDecodeAny(t *testing.T) {
	r := chance()
	count := map[bool]int{}
	for range 20000 {
		v := someValue(r, 5)
		b, e := Encode(v)
		back, e2 := Decode(b)
		if e != nil || e2 != nil || !equal(back, v) {
			t.Fatalf("%v: %x %v, decoded %v %v", v, b, e, back, e2)
		}
		for range 1 + r.IntN(2) {
			count[code.Changed(t, r.IntN, b, r.IntN(len(b)))]++
		}
	}
	if count[true] < 1000 || count[false] < 1000 {
		t.Errorf("%v", count)
	}
}

// long is a right value of that many bytes, from 4043 to 4107: five lists of 807 bytes, and a text.
func long(n int) api.Value {
	v := api.Value{Kind: api.List}
	for i := range 5 {
		inner := api.Value{Kind: api.List}
		for k := range 12 {
			inner.Ids, inner.Parts = append(inner.Ids, uint64(k+1)), append(inner.Parts, text(strings.Repeat("x", 64)))
		}
		v.Ids, v.Parts = append(v.Ids, uint64(i+1)), append(v.Parts, inner)
	}
	last := list([]uint64{1}, text(strings.Repeat("y", n-4043)))
	v.Ids, v.Parts = append(v.Ids, 6), append(v.Parts, last)
	return v
}

// TestLong: P8.2: values, and bytes, of 4096 and 4097 bytes.
func TestLong(t *testing.T) {
	for n := 4090; n <= 4102; n++ {
		v := long(n)
		if n <= 4096 {
			b, _ := Encode(v)
			if back, e := Decode(b); e != nil || len(b) != n || !equal(back, v) {
				t.Errorf("%d bytes: %d, %v", n, len(b), e)
			}
			continue
		}
		code.Refused(t, "too many", v, api.ErrLong)
		v.Parts[5].Parts[0].N = 1
		code.Refused(t, "too many, and not right", v, api.ErrArg)
	}
	b, _ := Encode(long(4096))
	code.Fails(t, "one byte fewer", string(b[:4095]), trial.Wrong{Code: api.ErrForm, Place: 4042})
	code.Fails(t, "no kind", strings.Repeat("\x00", 4096), trial.Wrong{Code: api.ErrKind, Place: 1})
	code.Fails(t, "most of it left", "\x01\x01"+strings.Repeat("\x00", 4094), trial.Wrong{Code: api.ErrForm, Place: 2})
	for _, b := range [][]byte{append(b[:4096:4096], 0), make([]byte, 4097), append([]byte{1, 1}, make([]byte, 4095)...), make([]byte, 100000)} {
		code.TooLong(t, b)
	}
}

// TestReadLong: P8.2: a reader's bytes may be any number.
func TestReadLong(t *testing.T) {
	b, _ := Encode(long(4096))
	five := b[2 : 2+5*807]
	all := append([]byte{6, 10}, five...)
	for i := range 5 { // the same five elements, by other numbers
		part := slices.Clone(five[807*i : 807*(i+1)])
		part[0] = byte(6 + i)
		all = append(all, part...)
	}
	r := pack.NewReader(append(all, 9))
	if v := Read(r); len(v.Parts) != 10 || r.Err() != nil || r.At() != len(all) || len(all) < 8000 {
		t.Error("Read of many bytes:", len(v.Parts), r.Err(), r.At(), len(all))
	}
}

// TestSeveral: P8.2: values one behind the other.
func TestSeveral(t *testing.T) {
	var l []api.Value
	for _, c := range valueBytes {
		l = append(l, c.v)
	}
	code.Several(t, l...)
}
