package pack

import (
	"bytes"
	"math"
	"testing"
)

// numberBytes are numbers, and their bytes.
var numberBytes = []struct {
	n uint64
	b string
}{
	{0, "\x00"},
	{1, "\x01"},
	{127, "\x7f"},
	{128, "\x80\x01"},
	{255, "\xff\x01"},
	{300, "\xac\x02"},
	{1<<14 - 1, "\xff\x7f"},
	{1 << 14, "\x80\x80\x01"},
	{1<<21 - 1, "\xff\xff\x7f"},
	{1 << 21, "\x80\x80\x80\x01"},
	{1<<28 - 1, "\xff\xff\xff\x7f"},
	{1 << 28, "\x80\x80\x80\x80\x01"},
	{1<<35 - 1, "\xff\xff\xff\xff\x7f"},
	{1 << 35, "\x80\x80\x80\x80\x80\x01"},
	{1<<42 - 1, "\xff\xff\xff\xff\xff\x7f"},
	{1 << 42, "\x80\x80\x80\x80\x80\x80\x01"},
	{1<<49 - 1, "\xff\xff\xff\xff\xff\xff\x7f"},
	{1 << 49, "\x80\x80\x80\x80\x80\x80\x80\x01"},
	{1<<56 - 1, "\xff\xff\xff\xff\xff\xff\xff\x7f"},
	{1 << 56, "\x80\x80\x80\x80\x80\x80\x80\x80\x01"},
	{1<<63 - 1, "\xff\xff\xff\xff\xff\xff\xff\xff\x7f"},
	{1 << 63, "\x80\x80\x80\x80\x80\x80\x80\x80\x80\x01"},
	{math.MaxUint64 - 1, "\xfe\xff\xff\xff\xff\xff\xff\xff\xff\x01"},
	{math.MaxUint64, "\xff\xff\xff\xff\xff\xff\xff\xff\xff\x01"},
}

// intBytes are signed numbers, and their bytes.
var intBytes = []struct {
	n int
	b string
}{
	{0, "\x00"},
	{-1, "\x01"},
	{1, "\x02"},
	{-2, "\x03"},
	{2, "\x04"},
	{63, "\x7e"},
	{-64, "\x7f"},
	{64, "\x80\x01"},
	{-65, "\x81\x01"},
	{math.MaxInt64, "\xfe\xff\xff\xff\xff\xff\xff\xff\xff\x01"},
	{math.MinInt64, "\xff\xff\xff\xff\xff\xff\xff\xff\xff\x01"},
	{math.MinInt64 + 1, "\xfd\xff\xff\xff\xff\xff\xff\xff\xff\x01"},
	{math.MaxInt32, "\xfe\xff\xff\xff\x0f"},
	{math.MinInt32, "\xff\xff\xff\xff\x0f"},
}

// TestFieldsWritten: P2.1: the bytes of each kind of field.
func TestFieldsWritten(t *testing.T) {
	check := func(name, want string, write func(w *Writer)) {
		t.Helper()
		var w Writer
		write(&w)
		if got := string(w.Out()); got != want {
			t.Errorf("%s: %x, not %x", name, got, want)
		}
	}
	for _, c := range numberBytes {
		check("Number", c.b, func(w *Writer) { w.Number(c.n) })
	}
	for _, c := range intBytes {
		check("Int", c.b, func(w *Writer) { w.Int(c.n) })
	}
	for c := range 256 {
		check("Byte", string([]byte{byte(c)}), func(w *Writer) { w.Byte(byte(c)) })
	}
	check("Bool", "\x00", func(w *Writer) { w.Bool(false) })
	check("Bool", "\x01", func(w *Writer) { w.Bool(true) })
	long := string(bytes.Repeat([]byte("x"), 300))
	for _, c := range []struct{ s, want string }{
		{"", "\x00"},
		{"a", "\x01a"},
		{"\x00\xff\x80", "\x03\x00\xff\x80"},
		{long, "\xac\x02" + long},
	} {
		check("Bytes", c.want, func(w *Writer) { w.Bytes([]byte(c.s)) })
		check("Text", c.want, func(w *Writer) { w.Text(c.s) })
		check("Raw", c.s, func(w *Writer) { w.Raw([]byte(c.s)...) })
	}
	check("Bytes of nil", "\x00", func(w *Writer) { w.Bytes(nil) })
	check("Raw of nothing", "", func(w *Writer) { w.Raw() })
	check("Raw, one by one", "\x03\x80\x00", func(w *Writer) { w.Raw(3, 0x80, 0) })
}

// TestWriter: P2.1: each field comes behind the others; what is told is all, and new.
func TestWriter(t *testing.T) {
	var w Writer
	if len(w.Out()) != 0 {
		t.Error("the zero value has written", w.Out())
	}
	w.Raw(9)
	w.Number(300)
	first := w.Out()
	w.Int(-3)
	w.Bool(true)
	w.Bytes([]byte{7, 7})
	w.Text("ab")
	w.Byte(5)
	want := "\x09\xac\x02\x05\x01\x02\x07\x07\x02ab\x05"
	if got := w.Out(); string(got) != want {
		t.Errorf("%x, not %x", got, want)
	}
	if string(first) != "\x09\xac\x02" {
		t.Errorf("what was told ahead has changed: %x", first)
	}
	out := w.Out()
	out[0] = 1
	_ = append(out[:1:len(out)], "zzz"...)
	if got := w.Out(); string(got) != want {
		t.Errorf("what was told is kept: %x", got)
	}
}

// TestHandedIn: what is handed in is neither changed nor kept, nor its spare room.
func TestHandedIn(t *testing.T) {
	b := []byte("abcdef")
	var w Writer
	w.Raw(b[:2]...)
	w.Bytes(b[2:3])
	w.Raw(1, 2, 3)
	if string(b) != "abcdef" {
		t.Errorf("what was handed in is %q", b)
	}
	b[0], b[2] = 'x', 'x'
	if got := string(w.Out()); got != "ab\x01c\x01\x02\x03" {
		t.Errorf("what was handed in is kept: %q", got)
	}
}

// TestNilWriter: no call panics.
func TestNilWriter(t *testing.T) {
	var w *Writer
	w.Byte(1)
	w.Number(300)
	w.Int(-1)
	w.Bool(true)
	w.Bytes([]byte{1})
	w.Text("a")
	w.Raw(1, 2)
	if len(w.Out()) != 0 {
		t.Error("a nil writer has written", w.Out())
	}
}
