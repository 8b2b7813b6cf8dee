package trial

import (
	"slices"

	"dioptre/api"
	"dioptre/fault"
	"dioptre/pack"
)

// Bytes is how a layer writes and reads things, and the model of that.
type Bytes[X any] struct {
	Encode func(x X) ([]byte, error)
	Decode func(b []byte) (X, error)
	// Read and Write are nil, if the layer has none.
	Read  func(r *pack.Reader) X
	Write func(w *pack.Writer, x X)
	Equal func(x, y X) bool
	Model func(m *Model) X
	// Roomy is the same thing with spare room in its lists, Whole a copy that shows this; Scramble overwrites all of it.
	Roomy, Whole func(x X) X
	Scramble     func(x X)
}

// Known holds a right thing against its bytes: it is encoded, written and decoded; what is cut off, or left over, is refused.
func (c Bytes[X]) Known(t T, x X, b string) {
	t.Helper()
	c.Encoded(t, x, []byte(b))
	c.Decoded(t, []byte(b))
	got, e := c.Decode([]byte(b))
	if e != nil || !c.Equal(got, x) {
		t.Errorf("Decode of %x: %v %v, not %v", b, got, e, x)
	}
	c.own(t, x, b)
	c.broken(t, b)
	for n := range len(b) {
		_, e := c.Decode([]byte(b[:n]))
		if c.Decoded(t, []byte(b[:n])) || fault.Code(e) != api.ErrForm {
			t.Errorf("Decode of %x of %x: %v", b[:n], b, e)
		}
	}
	for _, rest := range []string{"\x00", "\x01\x00", "\xff", b} {
		c.Fails(t, "bytes are left", b+rest, Wrong{api.ErrForm, len(b)})
	}
}

// Encoded holds what Encode and Write make of a thing against its bytes; the thing stays as it is.
func (c Bytes[X]) Encoded(t T, x X, want []byte) {
	t.Helper()
	x = c.Roomy(x)
	kept := c.Whole(x)
	b, e := c.Encode(x)
	if e != nil || !slices.Equal(b, want) {
		t.Errorf("Encode of %v: %x %v, not %x", x, b, e, want)
	}
	if out := c.written(x); !slices.Equal(out, slices.Concat([]byte{9}, want, []byte{8})) {
		t.Errorf("Write of %v: %x", x, out)
	}
	if !c.Equal(c.Whole(x), kept) {
		t.Errorf("Encode, Write have changed %v", x)
	}
	clear(b[:cap(b)])
	if again, _ := c.Encode(x); !slices.Equal(again, want) {
		t.Errorf("Encode of %v again: %x", x, again)
	}
}

// written is what Write writes, behind a 9 and ahead of an 8.
func (c Bytes[X]) written(x X) []byte {
	var w pack.Writer
	w.Byte(9)
	if c.Write != nil {
		c.Write(nil, x)
		c.Write(&w, x)
	} else {
		b, _ := c.Encode(x)
		w.Raw(b...)
	}
	w.Byte(8)
	return w.Out()
}

// Refused asks that a thing isn't encoded, and nothing is written.
func (c Bytes[X]) Refused(t T, name string, x X, code api.Errno) {
	t.Helper()
	b, e := c.Encode(x)
	Code(t, name+": Encode", e, code)
	if out := c.written(x); len(b) > 0 || len(out) != 2 {
		t.Errorf("%s: Encode, Write: %x, %x", name, b, out)
	}
}

// Decoded holds Decode, and Read, if there is one, behind other bytes, against the model; what is decoded has just these bytes. It tells whether they are right.
func (c Bytes[X]) Decoded(t T, b []byte) bool {
	t.Helper()
	want, size, w := Of(b, c.Model)
	c.readAt(t, b, want, size, w)
	if w == (Wrong{}) && size < len(b) {
		var none X
		want, w = none, Wrong{api.ErrForm, size}
	}
	kept := slices.Clone(b)
	x, e := c.Decode(b)
	if !w.is(e) || !c.Equal(x, want) || !slices.Equal(b, kept) {
		t.Errorf("Decode of %x: %v %v, not %v %v", kept, x, e, want, w)
	}
	if w != (Wrong{}) {
		return false
	}
	if again, e := c.Encode(x); e != nil || !slices.Equal(again, b) {
		t.Errorf("Decode of %x: %v, Encode %x %v", b, x, again, e)
	}
	clear(b)
	if !c.Equal(x, want) {
		t.Errorf("Decode has kept %x", kept)
	}
	copy(b, kept)
	return true
}

// readAt holds Read, of a reader that stands behind two bytes, against the model: it stands behind what it read, or where that is wrong.
func (c Bytes[X]) readAt(t T, b []byte, want X, size int, w Wrong) {
	t.Helper()
	if c.Read == nil {
		return
	}
	r := pack.NewReader(append([]byte{7, 7}, b...))
	r.Raw(2)
	place := 2 + size
	if w != (Wrong{}) {
		w.Place += 2
		place = w.Place
	}
	if x := c.Read(r); !c.Equal(x, want) || !w.is(r.Err()) || r.At() != place {
		t.Errorf("Read of %x: %v %v, at %d, not %v %v, at %d", b, x, r.Err(), r.At(), want, w, place)
	}
	if w != (Wrong{}) {
		c.stays(t, r, w)
	}
}

// stays asks that a broken reader does, and zero is told.
func (c Bytes[X]) stays(t T, r *pack.Reader, w Wrong) {
	t.Helper()
	var none X
	if x := c.Read(r); !c.Equal(x, none) || !w.is(r.Err()) || r.At() != w.Place {
		t.Errorf("Read of a broken reader: %v %v, at %d", x, r.Err(), r.At())
	}
}

// Fails asks that bytes are refused so, by Decode; the model says so, too.
func (c Bytes[X]) Fails(t T, name, b string, w Wrong) {
	t.Helper()
	x, e := c.Decode([]byte(b))
	Error(t, name, e, w)
	var none X
	if c.Decoded(t, []byte(b)) || !c.Equal(x, none) {
		t.Errorf("%s: %v", name, x)
	}
}

// TooLong asks that bytes that are too many are refused as a whole; they stay as they are.
func (c Bytes[X]) TooLong(t T, b []byte) {
	t.Helper()
	kept := slices.Clone(b)
	x, e := c.Decode(b)
	Code(t, "Decode of too many", e, api.ErrLong)
	var none X
	if !c.Equal(x, none) || !slices.Equal(b, kept) {
		t.Errorf("Decode of too many: %v, %x", x, b)
	}
}

// Sized holds a right thing against the limit: more than MaxBytes bytes are neither told nor taken, but they are read, if the layer reads.
func (c Bytes[X]) Sized(t T, x X, b []byte) {
	t.Helper()
	if len(b) <= api.MaxBytes {
		c.Encoded(t, x, b)
		c.Decoded(t, b)
		return
	}
	c.Refused(t, "too many bytes", x, api.ErrLong)
	c.TooLong(t, b)
	if c.Read == nil {
		return
	}
	r := pack.NewReader(b)
	if got := c.Read(r); r.End() != nil || !c.Equal(got, x) {
		t.Errorf("Read of %d bytes: %v %v", len(b), got, r.End())
	}
}

// own asks that bytes that are handed in stay as they are, their spare room, too, and what is told is new each time.
func (c Bytes[X]) own(t T, x X, b string) {
	t.Helper()
	all := []byte(b + "spare")
	got, _ := c.Decode(all[:len(b)])
	if string(all) != b+"spare" {
		t.Errorf("Decode of %x has changed it: %x", b, all)
	}
	c.Scramble(got)
	if again, _ := c.Decode(all[:len(b)]); string(all) != b+"spare" || !c.Equal(again, x) {
		t.Errorf("Decode of %x again: %v", b, again)
	}
}

// broken asks that readers that were broken ahead of a thing stay so, and nil ones and such without bytes tell zero.
func (c Bytes[X]) broken(t T, b string) {
	t.Helper()
	if c.Read == nil {
		return
	}
	for _, code := range []api.Errno{api.ErrDeep, api.ErrForm, api.ErrSign} {
		r := pack.NewReader([]byte("\x05" + b))
		r.Byte()
		r.Fail(code)
		c.stays(t, r, Wrong{code, 1})
	}
	var none X
	if x, y := c.Read(nil), c.Read(pack.NewReader(nil)); !c.Equal(x, none) || !c.Equal(y, none) {
		t.Errorf("Read of nil, of nothing: %v, %v", x, y)
	}
}

// Several asks that things that stand one behind the other are read one by one. (It is for layers that read.)
func (c Bytes[X]) Several(t T, things ...X) {
	t.Helper()
	var w pack.Writer
	for _, x := range things {
		b, _ := c.Encode(x)
		w.Raw(b...)
	}
	r := pack.NewReader(w.Out())
	for _, x := range things {
		if got := c.Read(r); !c.Equal(got, x) {
			t.Errorf("Read: %v, not %v", got, x)
		}
	}
	if e := r.End(); e != nil {
		t.Errorf("at the end: %v", e)
	}
}

// All holds all bytes of these letters, up to so many, behind these ones, against the model. It tells how many are right.
func (c Bytes[X]) All(t T, ahead, letters string, most int) (right int) {
	t.Helper()
	all := []string{ahead}
	for len(all) > 0 {
		b := all[0]
		all = all[1:]
		if c.Decoded(t, []byte(b)) {
			right++
		}
		for i := range len(letters) {
			if len(b) < len(ahead)+most {
				all = append(all, b+letters[i:i+1])
			}
		}
	}
	return right
}

// Changed holds bytes that are changed in that place, as is picked, against the model. It tells whether they are right then.
func (c Bytes[X]) Changed(t T, pick func(n int) int, b []byte, i int) bool {
	t.Helper()
	b = slices.Clone(b)
	switch pick(5) {
	case 0:
		b = slices.Insert(b, i, byte(pick(11)))
	case 1:
		b[i] = byte(pick(11))
	case 2:
		b[i] = byte(pick(256))
	case 3:
		b = slices.Delete(b, i, i+1)
	default:
		b[i] ^= 1 << pick(8)
	}
	return c.Decoded(t, b)
}
