package op

import (
	"dioptre/api"
	"dioptre/pack"
	"dioptre/path"
	"dioptre/scan"
	"dioptre/value"
)

// Write writes an operation.
func Write(w *pack.Writer, o api.Op) {
	// Beside an error there are no bytes.
	b, _ := Encode(o)
	w.Raw(b...)
}

// Encode is an operation's bytes.
func Encode(o api.Op) ([]byte, error) {
	if !Right(o) {
		return nil, api.ErrArg
	}
	var w pack.Writer
	e := write(&w, o)
	b := w.Out()
	if e != nil || len(b) > api.MaxBytes {
		return nil, api.ErrLong
	}
	return b, nil
}

// write writes a right operation: with an error, if its value alone is too long.
func write(w *pack.Writer, o api.Op) error {
	w.Byte(byte(o.Kind))
	path.Write(w, o.Path)
	switch o.Kind {
	case api.Insert:
		w.Number(o.Id)
		w.Number(o.After)
		// Behind its numbers there is what a Set has.
		fallthrough
	case api.Set:
		b, e := value.Encode(o.Value)
		w.Raw(b...)
		return e
	case api.Delete:
		w.Number(o.Id)
	case api.Move:
		w.Number(o.Id)
		w.Number(o.After)
	}
	return nil
}

// Decode is the operation of bytes.
func Decode(b []byte) (api.Op, error) { return scan.Whole(b, Read) }

// Read reads an operation.
func Read(r *pack.Reader) api.Op {
	o := api.Op{Kind: scan.Kind(r, api.Move), Path: path.Read(r)}
	switch o.Kind {
	case api.Insert:
		o.Id, o.After = readNumbers(r)
		// Behind its numbers there is what a Set has.
		fallthrough
	case api.Set:
		o.Value = value.Read(r)
	case api.Delete:
		o.Id = readId(r)
	case api.Move:
		o.Id, o.After = readNumbers(r)
	}
	if r.Err() != nil {
		return api.Op{}
	}
	return o
}

// readId reads the number of an element.
func readId(r *pack.Reader) uint64 {
	return scan.Number(r, func(id uint64) bool { return id != 0 })
}

// readNumbers reads the number of an element that comes in, and that of the one behind which it does.
func readNumbers(r *pack.Reader) (id, after uint64) {
	id = readId(r)
	return id, scan.Number(r, func(after uint64) bool { return after != id })
}
