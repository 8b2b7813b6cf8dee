package lens

import (
	"dioptre/api"
	"dioptre/pack"
	"dioptre/scan"
	"dioptre/schema"
	"dioptre/value"
)

// Write writes a lens.
func Write(w *pack.Writer, l api.Lens) {
	// Beside an error there are no bytes.
	b, _ := Encode(l)
	w.Raw(b...)
}

// Encode is a lens's bytes.
func Encode(l api.Lens) ([]byte, error) {
	if !Right(l) {
		return nil, api.ErrArg
	}
	var w pack.Writer
	long := write(&w, l)
	b := w.Out()
	if long || len(b) > api.MaxBytes {
		return nil, api.ErrLong
	}
	return b, nil
}

// write writes a right lens, and tells whether one of its fields alone is too long.
func write(w *pack.Writer, l api.Lens) (long bool) {
	field := func(b []byte, e error) {
		w.Raw(b...)
		long = long || e != nil
	}
	w.Byte(byte(l.Kind))
	w.Text(l.A)
	switch l.Kind {
	case api.Rename, api.Hoist, api.Plunge:
		w.Text(l.B)
	case api.Add, api.Remove, api.Convert:
		field(schema.Encode(l.Type))
		field(value.Encode(l.Base))
		if l.Kind == api.Convert {
			writePairs(w, l, field)
		}
	case api.In, api.Map:
		return write(w, l.Inner[0])
	}
	return long
}

// writePairs writes what only a Convert has, values by the function that is handed on.
func writePairs(w *pack.Writer, l api.Lens, field func(b []byte, e error)) {
	field(value.Encode(l.Back))
	w.Number(uint64(len(l.Pairs)))
	for _, p := range l.Pairs {
		field(value.Encode(p.X))
		field(value.Encode(p.Y))
	}
}

// Decode is the lens of bytes.
func Decode(b []byte) (api.Lens, error) { return scan.Whole(b, Read) }

// Read reads a lens.
func Read(r *pack.Reader) api.Lens {
	l := read(r, 1)
	if r.Err() != nil {
		return api.Lens{}
	}
	return l
}

// read reads a lens that lies so deep.
func read(r *pack.Reader, depth int) api.Lens {
	if depth > api.MaxDeep {
		r.Fail(api.ErrDeep)
	}
	l := api.Lens{Kind: scan.Kind(r, api.Map), A: scan.Word(r, value.Name)}
	fits := func(v api.Value) bool { return schema.Fits(v, l.Type) }
	switch l.Kind {
	case api.Rename, api.Hoist, api.Plunge:
		l.B = scan.Word(r, func(s string) bool { return other(s, l.A) })
	case api.Add, api.Remove:
		l.Type = schema.Read(r)
		l.Base = scan.Asked(r, value.Read, fits)
	case api.Convert:
		l.Type = scan.Asked(r, schema.Read, schema.Scalar)
		l.Base = scan.Asked(r, value.Read, fits)
		l.Back = scan.Asked(r, value.Read, scalar)
		l.Pairs = readPairs(r, fits)
	case api.In, api.Map:
		l.Inner = []api.Lens{read(r, depth+1)}
	}
	return l
}

// readPairs reads a Convert's pairs, whose second values are to fit.
func readPairs(r *pack.Reader, fits func(v api.Value) bool) (pairs []api.Pair) {
	for range scan.Count(r, api.MaxPairs) {
		x := scan.Asked(r, value.Read, scalar)
		pairs = append(pairs, api.Pair{X: x, Y: scan.Asked(r, value.Read, fits)})
	}
	return pairs
}
