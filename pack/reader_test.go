package pack

import (
	"errors"
	"math"
	"slices"
	"strings"
	"testing"

	"dioptre/api"
	"dioptre/fault"
)

// calls reads each kind of field, and tells whether what was read is zero.
var calls = []struct {
	name string
	read func(r *Reader) bool
}{
	{"Byte", func(r *Reader) bool { return r.Byte() == 0 }},
	{"Number", func(r *Reader) bool { return r.Number(math.MaxUint64) == 0 }},
	{"Int", func(r *Reader) bool { return r.Int() == 0 }},
	{"Bool", func(r *Reader) bool { return !r.Bool() }},
	{"Bytes", func(r *Reader) bool { return len(r.Bytes(math.MaxInt)) == 0 }},
	{"Text", func(r *Reader) bool { return r.Text(math.MaxInt) == "" }},
	{"Raw", func(r *Reader) bool { return len(r.Raw(1)) == 0 }},
}

// checkBroken: the reader is broken by that error in that place, alone, and stays so.
func checkBroken(t *testing.T, name string, r *Reader, want api.Errno, place int) {
	t.Helper()
	check := func(when string, e error) {
		t.Helper()
		if fault.Code(e) != want || !slices.Equal(fault.Places(e), []int{place}) || r.At() != place {
			t.Errorf("%s, %s: %d in %d, at %d; not %d in %d", name, when, fault.Code(e), fault.Places(e), r.At(), want, place)
		}
	}
	check("Err", r.Err())
	check("End", r.End())
	for _, c := range calls {
		if !c.read(r) {
			t.Errorf("%s: a broken reader's %s isn't zero", name, c.name)
		}
		check(c.name+" behind it", r.Err())
	}
	r.Fail(api.ErrSign)
	check("Fail behind it", r.Err())
}

// checkRead: the reader stands there, whole.
func checkRead(t *testing.T, name string, r *Reader, at int) {
	t.Helper()
	if r.Err() != nil || r.At() != at {
		t.Errorf("%s: %v, at %d, not %d", name, r.Err(), r.At(), at)
	}
}

// behind is a reader of these bytes that stands behind two others.
func behind(b string) *Reader {
	r := NewReader([]byte("\xff\xff" + b))
	r.Raw(2)
	return r
}

// TestByte: P2.2.
func TestByte(t *testing.T) {
	for c := range 256 {
		r := behind(string([]byte{byte(c), 7}))
		if got := r.Byte(); int(got) != c {
			t.Error("Byte", c, "is", got)
		}
		checkRead(t, "Byte", r, 3)
	}
	r := behind("")
	if r.Byte() != 0 {
		t.Error("Byte of none")
	}
	checkBroken(t, "Byte of none", r, api.ErrForm, 2)
}

// TestNumber: P2.2: numbers of 1 to 10 bytes, up to the greatest one that may be.
func TestNumber(t *testing.T) {
	for _, c := range numberBytes {
		for _, rest := range []string{"", "\x00", "\x80\xff"} {
			for _, most := range []uint64{c.n, math.MaxUint64} {
				r := behind(c.b + rest)
				if got := r.Number(most); got != c.n {
					t.Errorf("Number of %x: %d", c.b, got)
				}
				checkRead(t, "Number", r, 2+len(c.b))
			}
		}
		if c.n == 0 {
			continue
		}
		for _, most := range []uint64{c.n - 1, 0} {
			r := behind(c.b)
			if got := r.Number(most); got != 0 {
				t.Errorf("Number of %x, above the most: %d", c.b, got)
			}
			checkBroken(t, "Number above the most", r, api.ErrRange, 2)
		}
	}
}

// noNumbers are bytes at whose beginning no number is.
func noNumbers() []string {
	l := []string{"", "\x80\x00", "\xff\x00", "\x80\x80\x00", "\xff\xff\xff\xff\xff\xff\xff\xff\xff\x00", "\x80\x00\x01"}
	for n := range 14 { // they end too early, or are too many
		l = append(l, strings.Repeat("\x80", n+1), strings.Repeat("\xff", n+1))
	}
	for n := 10; n < 14; n++ { // more than ten
		l = append(l, strings.Repeat("\x80", n)+"\x01", strings.Repeat("\xff", n)+"\x00", strings.Repeat("\x80", n)+"\x00")
	}
	for c := 2; c < 256; c++ { // 2^64 and above; a tenth byte that isn't the last one
		l = append(l, strings.Repeat("\x80", 9)+string([]byte{byte(c)}), strings.Repeat("\xff", 9)+string([]byte{byte(c), 0}))
	}
	return l
}

// TestNoNumber: P2.2: ErrForm, whatever the most is, and ahead of what Bytes and Text have of their own.
func TestNoNumber(t *testing.T) {
	for _, b := range noNumbers() {
		for _, most := range []uint64{0, 1, math.MaxUint64} {
			r := behind(b)
			if got := r.Number(most); got != 0 {
				t.Errorf("Number of %x: %d", b, got)
			}
			checkBroken(t, "Number", r, api.ErrForm, 2)
		}
		r := behind(b)
		if got := r.Int(); got != 0 {
			t.Errorf("Int of %x: %d", b, got)
		}
		checkBroken(t, "Int", r, api.ErrForm, 2)
		for _, most := range []int{-1, 0, math.MaxInt} {
			r := behind(b)
			if got := r.Bytes(most); len(got) != 0 {
				t.Errorf("Bytes of %x: %x", b, got)
			}
			checkBroken(t, "Bytes", r, api.ErrForm, 2)
			r = behind(b)
			if got := r.Text(most); got != "" {
				t.Errorf("Text of %x: %x", b, got)
			}
			checkBroken(t, "Text", r, api.ErrForm, 2)
		}
	}
}

// TestInt: P2.2: any signed number.
func TestInt(t *testing.T) {
	for _, c := range intBytes {
		r := behind(c.b + "\x01")
		if got := r.Int(); got != c.n {
			t.Errorf("Int of %x: %d, not %d", c.b, got, c.n)
		}
		checkRead(t, "Int", r, 2+len(c.b))
	}
}

// TestBool: P2.2.
func TestBool(t *testing.T) {
	for c := range 256 {
		r := behind(string([]byte{byte(c), 1}))
		got := r.Bool()
		if got != (c == 1) {
			t.Error("Bool of", c, "is", got)
		}
		if c < 2 {
			checkRead(t, "Bool", r, 3)
		} else {
			checkBroken(t, "Bool", r, api.ErrForm, 2)
		}
	}
	r := behind("")
	if r.Bool() {
		t.Error("Bool of none")
	}
	checkBroken(t, "Bool of none", r, api.ErrForm, 2)
}

// TestBytes: P2.2: Bytes and Text, with their errors in order.
func TestBytes(t *testing.T) {
	long := strings.Repeat("x", 300)
	for _, c := range []struct {
		b    string
		most int
		want string
		code api.Errno
	}{
		{"\x00", 0, "", api.OK},
		{"\x00", -1, "", api.OK},
		{"\x00", math.MinInt, "", api.OK},
		{"\x00", 5, "", api.OK},
		{"\x02ab", 2, "ab", api.OK},
		{"\x02abc", 3, "ab", api.OK},
		{"\x02\x00\xff", math.MaxInt, "\x00\xff", api.OK},
		{"\xac\x02" + long, 300, long, api.OK},
		{"\xac\x02" + long, 299, "", api.ErrLong},
		{"\x02ab", 1, "", api.ErrLong},
		{"\x02ab", 0, "", api.ErrLong},
		{"\x01a", -1, "", api.ErrLong},
		{"\x01a", math.MinInt, "", api.ErrLong},
		{"\x02a", 1, "", api.ErrLong}, // ahead of that fewer are left
		{"\x01", -1, "", api.ErrLong},
		{"\x02a", 2, "", api.ErrForm},
		{"\x01", 5, "", api.ErrForm},
		{"\x04abc", math.MaxInt, "", api.ErrForm},
		{"\xac\x02" + long[1:], 300, "", api.ErrForm},
		{"\x7fab", 126, "", api.ErrLong},
		{"\xff\xff\xff\xff\xff\xff\xff\xff\x7fa", math.MaxInt, "", api.ErrForm}, // 2^63 - 1 bytes
		{"\x80\x80\x80\x80\x80\x80\x80\x80\x80\x01a", math.MaxInt, "", api.ErrLong},
		{"\xff\xff\xff\xff\xff\xff\xff\xff\xff\x01a", math.MaxInt, "", api.ErrLong},
	} {
		r, s := behind(c.b), behind(c.b)
		if got := r.Bytes(c.most); string(got) != c.want {
			t.Errorf("Bytes of %x, %d: %x", c.b, c.most, got)
		}
		if got := s.Text(c.most); got != c.want {
			t.Errorf("Text of %x, %d: %x", c.b, c.most, got)
		}
		if c.code != api.OK {
			checkBroken(t, "Bytes", r, c.code, 2)
			checkBroken(t, "Text", s, c.code, 2)
			continue
		}
		var w Writer
		w.Text(c.want)
		checkRead(t, "Bytes", r, 2+len(w.Out()))
		checkRead(t, "Text", s, 2+len(w.Out()))
	}
}

// TestRaw: P2.2.
func TestRaw(t *testing.T) {
	for _, c := range []struct {
		b    string
		n    int
		want string
		code api.Errno
	}{
		{"abc", 3, "abc", api.OK},
		{"abc", 1, "a", api.OK},
		{"abc", 0, "", api.OK},
		{"abc", -1, "", api.OK},
		{"abc", math.MinInt, "", api.OK},
		{"", 0, "", api.OK},
		{"", -1, "", api.OK},
		{"abc", 4, "", api.ErrForm},
		{"", 1, "", api.ErrForm},
		{"abc", math.MaxInt, "", api.ErrForm},
	} {
		r := behind(c.b)
		if got := r.Raw(c.n); string(got) != c.want {
			t.Errorf("Raw of %q, %d: %q", c.b, c.n, got)
		}
		if c.code == api.OK {
			checkRead(t, "Raw", r, 2+len(c.want))
		} else {
			checkBroken(t, "Raw", r, c.code, 2)
		}
	}
}

// TestFail: P2.3: the first error stays.
func TestFail(t *testing.T) {
	r := behind("abc")
	r.Fail(api.OK)
	checkRead(t, "Fail of OK", r, 2)
	if r.Byte() != 'a' {
		t.Error("Fail of OK has broken the reader")
	}
	r.Fail(api.ErrKind)
	checkBroken(t, "Fail", r, api.ErrKind, 3)
	r.Fail(api.OK)
	checkBroken(t, "Fail of OK, behind another one", r, api.ErrKind, 3)

	r = behind("")
	r.Fail(api.ErrDeep)
	checkBroken(t, "Fail at the end", r, api.ErrDeep, 2)
	r = NewReader(nil)
	r.Fail(api.ErrRange)
	checkBroken(t, "Fail at the beginning", r, api.ErrRange, 0)
}

// TestEnd: P2.3: bytes that are left.
func TestEnd(t *testing.T) {
	for _, b := range [][]byte{nil, {}} {
		r := NewReader(b)
		if r.Err() != nil || r.End() != nil || r.At() != 0 {
			t.Error("a reader of nothing:", r.Err(), r.End(), r.At())
		}
	}
	r := NewReader([]byte{1, 2})
	for place := range 2 {
		e := r.End()
		if fault.Code(e) != api.ErrForm || !slices.Equal(fault.Places(e), []int{place}) {
			t.Error("End, bytes being left:", e)
		}
		// To ask doesn't break it.
		checkRead(t, "End", r, place)
		if int(r.Byte()) != place+1 {
			t.Error("behind End another byte is read")
		}
	}
	if r.End() != nil || r.At() != 2 {
		t.Error("End:", r.End(), r.At())
	}
}

// TestNilReader: P2.3: zero values, and ErrState without a place.
func TestNilReader(t *testing.T) {
	var r *Reader
	for _, c := range calls {
		if !c.read(r) {
			t.Error("a nil reader's", c.name, "isn't zero")
		}
	}
	r.Fail(api.ErrForm)
	for _, e := range []error{r.Err(), r.End()} {
		if fault.Code(e) != api.ErrState || fault.Places(e) != nil {
			t.Error("a nil reader's error:", e)
		}
	}
	if r.At() != 0 {
		t.Error("a nil reader's place:", r.At())
	}
}

// TestOwn: what is handed in isn't kept; what is answered is new, errors too.
func TestOwn(t *testing.T) {
	b := []byte("\x02ab\x01c\x05")
	r := NewReader(b[:5])
	got := r.Bytes(2)
	b[1], b[3], b[4] = 'x', 9, 'y'
	got[0] = 'z'
	_ = append(got, 9, 9, 9)
	if s := r.Text(9); s != "c" || r.End() != nil {
		t.Error("what was handed in is kept:", s, r.End())
	}
	r = NewReader(b)
	raw := r.Raw(3)
	raw[0] = 77
	_ = append(raw, 8, 8, 8)
	if string(b) != "\x02xb\x09y\x05" || r.Byte() != 9 {
		t.Errorf("what was answered is shared: %x", b)
	}
	r.Fail(api.ErrKey)
	var at *fault.At
	if !errors.As(r.Err(), &at) {
		t.Fatal("no place")
	}
	at.Place, at.Err = 99, nil
	checkBroken(t, "an error that was changed", r, api.ErrKey, 4)
}
