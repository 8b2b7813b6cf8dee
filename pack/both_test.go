package pack

import (
	"bytes"
	"math"
	"testing"

	"dioptre/api"
	"dioptre/fault"
)

// TestExample: the examples of the chapter, and of the whole.
func TestExample(t *testing.T) {
	var w Writer
	w.Number(300)
	w.Int(-1)
	if got := w.Out(); !bytes.Equal(got, []byte{0xac, 2, 1}) {
		t.Errorf("%x", got)
	}
	r := NewReader([]byte{0x80, 0})
	r.Number(math.MaxUint64)
	if fault.Code(r.Err()) != api.ErrForm || fault.Place(r.Err()) != 0 {
		t.Error("80, 0:", r.Err())
	}
}

// TestWrittenIsRead: P2.4: what was written is read, field by field, up to the end.
func TestWrittenIsRead(t *testing.T) {
	state := uint64(1)
	next := func() uint64 { // the same numbers each time, of all lengths
		state = state*6364136223846793005 + 1442695040888963407
		return state >> (state >> 58)
	}
	for range 2000 {
		var w Writer
		var reads []func(r *Reader) bool
		for range next() % 12 {
			n, s := next(), bytes.Repeat([]byte{byte(next())}, int(next()%200))
			switch next() % 7 {
			case 0:
				w.Byte(byte(n))
				reads = append(reads, func(r *Reader) bool { return r.Byte() == byte(n) })
			case 1:
				w.Number(n)
				reads = append(reads, func(r *Reader) bool { return r.Number(n) == n })
			case 2:
				w.Int(int(n))
				reads = append(reads, func(r *Reader) bool { return r.Int() == int(n) })
			case 3:
				w.Bool(n%2 == 1)
				reads = append(reads, func(r *Reader) bool { return r.Bool() == (n%2 == 1) })
			case 4:
				w.Bytes(s)
				reads = append(reads, func(r *Reader) bool { return bytes.Equal(r.Bytes(len(s)), s) })
			case 5:
				w.Text(string(s))
				reads = append(reads, func(r *Reader) bool { return r.Text(len(s)) == string(s) })
			default:
				w.Raw(s...)
				reads = append(reads, func(r *Reader) bool { return bytes.Equal(r.Raw(len(s)), s) })
			}
		}
		out := w.Out()
		checkWhole(t, out, reads)
		if len(out) > 0 {
			checkCut(t, out[:len(out)-1], reads)
		}
	}
}

// checkWhole: each field is read, and nothing is left.
func checkWhole(t *testing.T, b []byte, reads []func(r *Reader) bool) {
	t.Helper()
	r := NewReader(b)
	for i, read := range reads {
		if !read(r) {
			t.Fatalf("field %d of %x isn't read: %v", i, b, r.Err())
		}
	}
	if r.End() != nil || r.At() != len(b) {
		t.Fatalf("the end of %x: %v", b, r.End())
	}
}

// checkCut: where the last byte lacks, the field that has it is missed.
func checkCut(t *testing.T, b []byte, reads []func(r *Reader) bool) {
	t.Helper()
	r := NewReader(b)
	for _, read := range reads {
		read(r)
	}
	if fault.Code(r.End()) != api.ErrForm {
		t.Fatalf("%x, a byte of which lacks: %v", b, r.End())
	}
}

// TestReadHasJustTheseBytes: P2.4: of all bytes up to three, and of long numbers, what is read is written just so.
func TestReadHasJustTheseBytes(t *testing.T) {
	for n := range 1 << 8 {
		checkForm(t, []byte{byte(n)})
	}
	for n := range 1 << 16 {
		checkForm(t, []byte{byte(n), byte(n >> 8)})
	}
	edges := []byte{0, 1, 2, 3, 0x7e, 0x7f, 0x80, 0x81, 0xfe, 0xff}
	for n := range 1 << 16 {
		for _, c := range edges {
			checkForm(t, []byte{byte(n), c, byte(n >> 8)})
		}
	}
	for size := 8; size <= 11; size++ {
		for _, c := range edges {
			for _, last := range edges {
				b := append(bytes.Repeat([]byte{c}, size-1), last)
				checkForm(t, b)
				b[0] = 0x80
				checkForm(t, b)
			}
		}
	}
}

// checkForm: bytes that one field is have just the form in which that field is written.
func checkForm(t *testing.T, b []byte) {
	t.Helper()
	for _, again := range []func(r *Reader, w *Writer){
		func(r *Reader, w *Writer) { w.Number(r.Number(math.MaxUint64)) },
		func(r *Reader, w *Writer) { w.Int(r.Int()) },
		func(r *Reader, w *Writer) { w.Bool(r.Bool()) },
		func(r *Reader, w *Writer) { w.Byte(r.Byte()) },
		func(r *Reader, w *Writer) { w.Bytes(r.Bytes(len(b))) },
		func(r *Reader, w *Writer) { w.Text(r.Text(len(b))) },
		func(r *Reader, w *Writer) { w.Raw(r.Raw(len(b))...) },
	} {
		var w Writer
		r := NewReader(b)
		again(r, &w)
		if r.End() == nil && !bytes.Equal(w.Out(), b) {
			t.Fatalf("%x is written %x", b, w.Out())
		}
	}
}
