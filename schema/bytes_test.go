package schema

import (
	"slices"
	"strings"
	"testing"

	"dioptre/api"
	"dioptre/pack"
	"dioptre/sample"
	"dioptre/trial"
)

// schemaBytes are right schemas, and their bytes.
var schemaBytes = []struct {
	s api.Schema
	b string
}{
	{of(api.Bool), "\x01"},
	{of(api.Int), "\x02"},
	{of(api.Text), "\x03"},
	{enum("a"), "\x04\x01\x01a"},
	{enum("red", "blue"), "\x04\x02\x03red\x04blue"},
	{enum("abcdefghij_9", "a"), "\x04\x02\x0cabcdefghij_9\x01a"},
	{enum(eight...), "\x04\x08\x01a\x01b\x01c\x01d\x01e\x01f\x01g\x01h"},
	{record(nil), "\x05\x00"},
	{record([]string{"a", "c"}, of(api.Int), enum("red", "blue")), "\x05\x02\x01a\x02\x01c\x04\x02\x03red\x04blue"},
	{record(eight, many(8)...), "\x05\x08\x01a\x01\x01b\x02\x01c\x03\x01d\x01\x01e\x02\x01f\x03\x01g\x01\x01h\x02"},
	{list(of(api.Bool)), "\x06\x01"},
	{list(record([]string{"a"}, list(enum("x")))), "\x06\x05\x01\x01a\x06\x04\x01\x01x"},
	{inLists(of(api.Text), 4), "\x06\x06\x06\x06\x03"},
	{inRecords(record(nil), 4), "\x05\x01\x01a\x05\x01\x01a\x05\x01\x01a\x05\x01\x01a\x05\x00"},
}

// TestBytes: P9.2, P9.4: the bytes of each kind; they are decoded, those that are cut off, or followed by others, are refused.
func TestBytes(t *testing.T) {
	for _, c := range schemaBytes {
		code.Known(t, c.s, c.b)
	}
}

// cutBytes are bytes that are wrong by where they end.
var cutBytes = []struct {
	name, b string
	place   int
}{
	{"none", "", 0},
	{"enum, no number", "\x04", 1},
	{"enum, a number that goes on", "\x04\x80", 1},
	{"enum, no word", "\x04\x01", 2},
	{"a word, fewer left", "\x04\x01\x03aa", 2},
	{"an enum that ends", "\x04\x02\x01a", 4},
	{"record, no number", "\x05", 1},
	{"a name, fewer left", "\x05\x01\x03aa", 2},
	{"a field without a part", "\x05\x01\x01a", 4},
	{"a record that ends", "\x05\x02\x01a\x02", 5},
	{"a list without a part", "\x06", 1},
}

// wrongBytes are bytes, and what is wrong with them, in which place, whatever comes behind.
var wrongBytes = []struct {
	name, b string
	code    api.Errno
	place   int
}{
	{"kind 0", "\x00", api.ErrKind, 1},
	{"kind 7", "\x07\x00", api.ErrKind, 1},
	{"kind 255", "\xff", api.ErrKind, 1},
	{"enum, a number that isn't short", "\x04\x80\x00", api.ErrForm, 1},
	{"no words", "\x04\x00", api.ErrForm, 2},
	{"nine words", "\x04\x09", api.ErrLong, 2},
	{"very many words", "\x04\xff\xff\xff\xff\xff\xff\xff\xff\xff\x01", api.ErrLong, 11},
	{"a word of 65", "\x04\x01\x41" + strings.Repeat("A", 65), api.ErrLong, 2},
	{"a word of 64", "\x04\x01\x40" + strings.Repeat("a", 64), api.ErrForm, 67},
	{"a word of 13", "\x04\x01\x0dabcdefghijklm", api.ErrForm, 16},
	{"an empty word", "\x04\x01\x00", api.ErrForm, 3},
	{"a great word", "\x04\x02\x01a\x01B", api.ErrForm, 6},
	{"the same word", "\x04\x02\x01a\x01a", api.ErrForm, 6},
	{"the same word, apart", "\x04\x04\x01b\x01a\x01c\x01b\x01b", api.ErrForm, 10},
	{"the same word ahead of a great one", "\x04\x03\x01a\x01a\x01B", api.ErrForm, 6},
	{"record, a number that isn't short", "\x05\x81\x00", api.ErrForm, 1},
	{"nine fields", "\x05\x09", api.ErrLong, 2},
	{"very many fields", "\x05\x80\x80\x01", api.ErrLong, 4},
	{"a name of 65", "\x05\x01\x41" + strings.Repeat("a", 65), api.ErrLong, 2},
	{"no name", "\x05\x01\x00\x02", api.ErrForm, 3},
	{"a great name", "\x05\x01\x01A\x02", api.ErrForm, 4},
	{"a name of 13", "\x05\x01\x0dabcdefghijklm\x00", api.ErrForm, 16},
	{"a field of no kind", "\x05\x01\x01a\x00", api.ErrKind, 5},
	{"the same name", "\x05\x02\x01a\x02\x01a\x00", api.ErrForm, 7},
	{"a name that falls", "\x05\x02\x01b\x02\x01a\x00", api.ErrForm, 7},
	{"a shorter name", "\x05\x02\x02ab\x02\x01a\x00", api.ErrForm, 8},
	{"a wrong part ahead of a wrong name", "\x05\x02\x01b\x04\x00\x01a\x00", api.ErrForm, 6},
	{"a list of no kind", "\x06\x00", api.ErrKind, 2},
	{"a list of kind 7", "\x06\x07", api.ErrKind, 2},
	{"within", "\x06\x05\x01\x01a\x06\x04\x00", api.ErrForm, 8},
	{"ahead of what is left over", "\x04\x00\x00\x00", api.ErrForm, 2},
	{"six deep", "\x06\x06\x06\x06\x06\x02", api.ErrDeep, 5},
	{"six deep, behind", "\x05\x02\x01a\x02\x01b\x06\x06\x06\x06\x09", api.ErrDeep, 11},
	{"a wrong name, five deep", "\x06\x06\x06\x06\x05\x01\x00\x02", api.ErrForm, 7},
	{"no words, five deep", "\x06\x06\x06\x06\x04\x00", api.ErrForm, 6},
}

// TestErrors: P9.2: each error, in its place, the first one from the left.
func TestErrors(t *testing.T) {
	for _, c := range cutBytes {
		code.Fails(t, c.name, c.b, trial.Wrong{Code: api.ErrForm, Place: c.place})
	}
	for _, c := range wrongBytes {
		for _, rest := range []string{"", "\x00", "\x09\x09"} {
			code.Fails(t, c.name, c.b+rest, trial.Wrong{Code: c.code, Place: c.place})
		}
	}
}

// TestTooDeep: P9.2: a schema that lies six deep, whatever its kind's byte is, and if there is none.
func TestTooDeep(t *testing.T) {
	for name, front := range map[string]string{
		"lists":   strings.Repeat("\x06", 5),
		"records": strings.Repeat("\x05\x01\x01a", 5),
		"mixed":   "\x05\x01\x01a\x06\x05\x02\x01a\x02\x02zz\x06\x06",
	} {
		rests := []string{"", "\x04\x00", "\x04\x01\x01a"}
		for c := range 256 {
			rests = append(rests, string([]byte{byte(c)}))
		}
		for _, rest := range rests {
			code.Fails(t, name, front+rest, trial.Wrong{Code: api.ErrDeep, Place: len(front)})
		}
	}
	// As many lists as one likes.
	code.Fails(t, "lists", strings.Repeat("\x06", 4096), trial.Wrong{Code: api.ErrDeep, Place: 5})
}

// TestDecodeAll: P9.2, P9.4: all bytes up to six of those that say something, as the model says.
func TestDecodeAll(t *testing.T) {
	if right := code.All(t, "", "\x00\x01\x02\x04\x05\x06\x07ab", 6); right < 50 {
		t.Error("right:", right)
	}
}

// TestDecodeAny: P9.2, P9.4: bytes of any schemas, and such as were changed somewhere, as the model says.
func TestDecodeAny(t *testing.T) {
	r := chance()
	count := map[bool]int{}
	for range 20000 {
		s := someSchema(r, 5)
		b, e := Encode(s)
		back, e2 := Decode(b)
		if e != nil || e2 != nil || !equal(back, s) {
			t.Fatalf("%v: %x %v, decoded %v %v", s, b, e, back, e2)
		}
		for range 1 + r.IntN(2) {
			count[code.Changed(t, r.IntN, b, r.IntN(len(b)))]++
		}
	}
	if count[true] < 1000 || count[false] < 1000 {
		t.Errorf("%v", count)
	}
}

// TestLong: P9.2: schemas, and bytes, of 4096 and 4097 bytes.
func TestLong(t *testing.T) {
	for n := 4089; n <= 4100; n++ {
		s := sample.LargeSchema(n)
		if n <= 4096 {
			b, _ := Encode(s)
			if back, e := Decode(b); e != nil || len(b) != n || !equal(back, s) {
				t.Errorf("%d bytes: %d, %v", n, len(b), e)
			}
			continue
		}
		code.Refused(t, "too many", s, api.ErrLong)
		s.Parts[4].Parts[5].Kind = 7
		code.Refused(t, "too many, and not right", s, api.ErrArg)
	}
	b, _ := Encode(sample.LargeSchema(4096))
	code.Fails(t, "one byte fewer", string(b[:4095]), trial.Wrong{Code: api.ErrForm, Place: 4087})
	code.Fails(t, "no kind", strings.Repeat("\x00", 4096), trial.Wrong{Code: api.ErrKind, Place: 1})
	code.Fails(t, "most of it left", "\x02"+strings.Repeat("\x00", 4095), trial.Wrong{Code: api.ErrForm, Place: 1})
	for _, b := range [][]byte{append(b[:4096:4096], 0), make([]byte, 4097), append([]byte{2}, make([]byte, 4096)...), make([]byte, 100000)} {
		code.TooLong(t, b)
	}
}

// TestReadLong: P9.2: a reader's bytes may be any number.
func TestReadLong(t *testing.T) {
	b, _ := Encode(sample.LargeSchema(4096))
	all := append([]byte{5, 8}, b[2:2+4*868]...)
	for i := range 4 { // the same four fields, by other names
		part := slices.Clone(b[2+868*i : 2+868*(i+1)])
		part[1] += 4
		all = append(all, part...)
	}
	r := pack.NewReader(append(all, 9))
	if s := Read(r); len(s.Parts) != 8 || !Right(s) || r.Err() != nil || r.At() != len(all) || len(all) < 6900 {
		t.Error("Read of many bytes:", len(s.Parts), r.Err(), r.At(), len(all))
	}
}

// TestSeveral: P9.2: schemas one behind the other.
func TestSeveral(t *testing.T) {
	var l []api.Schema
	for _, c := range schemaBytes {
		l = append(l, c.s)
	}
	code.Several(t, l...)
}
