package value

import (
	"dioptre/api"
	"dioptre/fields"
	"dioptre/pack"
	"dioptre/scan"
)

// Encode is a value's bytes.
func Encode(v api.Value) ([]byte, error) {
	if !Right(v) {
		return nil, api.ErrArg
	}
	var w pack.Writer
	write(&w, v)
	b := w.Out()
	if len(b) > api.MaxBytes {
		return nil, api.ErrLong
	}
	return b, nil
}

// write writes a right value.
func write(w *pack.Writer, v api.Value) {
	w.Byte(byte(v.Kind))
	switch v.Kind {
	case api.Bool:
		w.Bool(v.N == 1)
	case api.Int:
		w.Int(v.N)
	case api.Text, api.Enum:
		w.Text(v.S)
	case api.Record:
		fields.Write(w, v.Names, v.Parts, write)
	case api.List:
		w.Number(uint64(len(v.Ids)))
		for i, id := range v.Ids {
			w.Number(id)
			write(w, v.Parts[i])
		}
	}
}

// Decode is the value of bytes.
func Decode(b []byte) (api.Value, error) { return scan.Whole(b, Read) }

// Read reads a value.
func Read(r *pack.Reader) api.Value {
	v := read(r, 1)
	if r.Err() != nil {
		return api.Value{}
	}
	return v
}

// read reads a value that lies so deep.
func read(r *pack.Reader, depth int) api.Value {
	if depth > api.MaxDeep {
		r.Fail(api.ErrDeep)
	}
	v := api.Value{Kind: int(r.Byte())}
	part := func() api.Value { return read(r, depth+1) }
	switch v.Kind {
	case api.Bool:
		if r.Bool() {
			v.N = 1
		}
	case api.Int:
		v.N = r.Int()
	case api.Text:
		v.S = r.Text(api.MaxText)
	case api.Enum:
		v.S = scan.Word(r, Name)
	case api.Record:
		v.Names, v.Parts = fields.Read(r, part)
	case api.List:
		v.Ids, v.Parts = readElements(r, part)
	default:
		r.Fail(api.ErrKind)
	}
	return v
}

// readElements reads a list's elements, each one's part by the function that is handed on.
func readElements(r *pack.Reader, part func() api.Value) (ids []uint64, parts []api.Value) {
	for range scan.Count(r, api.MaxItems) {
		ids = append(ids, scan.Number(r, func(id uint64) bool { return fresh(ids, id) }))
		parts = append(parts, part())
	}
	return ids, parts
}
