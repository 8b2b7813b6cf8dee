// Package pack is layer 2: canonical bytes.
package pack

import "slices"

// Writer writes fields.
type Writer struct {
	out []byte
}

// Raw writes bytes.
func (w *Writer) Raw(b ...byte) {
	if w != nil {
		w.out = append(w.out, b...)
	}
}

// Byte writes a byte.
func (w *Writer) Byte(c byte) { w.Raw(c) }

// Number writes a number.
func (w *Writer) Number(n uint64) {
	for ; n > lowBits; n >>= 7 {
		w.Raw(byte(n) | goesOn)
	}
	w.Raw(byte(n))
}

// Int writes a signed number.
func (w *Writer) Int(n int) { w.Number(fold(n)) }

// Bool writes a bool.
func (w *Writer) Bool(b bool) {
	if b {
		w.Raw(1)
	} else {
		w.Raw(0)
	}
}

// Bytes writes bytes, and how many there are.
func (w *Writer) Bytes(b []byte) {
	w.Number(uint64(len(b)))
	w.Raw(b...)
}

// Text writes a text.
func (w *Writer) Text(s string) { w.Bytes([]byte(s)) }

// Out is all that was written.
func (w *Writer) Out() []byte {
	if w == nil {
		return nil
	}
	return slices.Clone(w.out)
}
