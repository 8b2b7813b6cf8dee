package schema

import (
	"dioptre/api"
	"dioptre/fields"
	"dioptre/pack"
	"dioptre/scan"
)

// Encode is a schema's bytes.
func Encode(s api.Schema) ([]byte, error) {
	if !Right(s) {
		return nil, api.ErrArg
	}
	var w pack.Writer
	write(&w, s)
	b := w.Out()
	if len(b) > api.MaxBytes {
		return nil, api.ErrLong
	}
	return b, nil
}

// write writes a right schema.
func write(w *pack.Writer, s api.Schema) {
	w.Byte(byte(s.Kind))
	switch s.Kind {
	case api.Enum:
		w.Number(uint64(len(s.Words)))
		for _, word := range s.Words {
			w.Text(word)
		}
	case api.Record:
		fields.Write(w, s.Words, s.Parts, write)
	case api.List:
		write(w, s.Parts[0])
	}
}

// Decode is the schema of bytes.
func Decode(b []byte) (api.Schema, error) { return scan.Whole(b, Read) }

// Read reads a schema.
func Read(r *pack.Reader) api.Schema {
	s := read(r, 1)
	if r.Err() != nil {
		return api.Schema{}
	}
	return s
}

// read reads a schema that lies so deep.
func read(r *pack.Reader, depth int) api.Schema {
	if depth > api.MaxDeep {
		r.Fail(api.ErrDeep)
	}
	s := api.Schema{Kind: int(r.Byte())}
	part := func() api.Schema { return read(r, depth+1) }
	switch s.Kind {
	case api.Bool, api.Int, api.Text:
	case api.Enum:
		s.Words = readWords(r)
	case api.Record:
		s.Words, s.Parts = fields.Read(r, part)
	case api.List:
		s.Parts = []api.Schema{part()}
	default:
		r.Fail(api.ErrKind)
	}
	return s
}

// readWords reads an enum's words.
func readWords(r *pack.Reader) (words []string) {
	count := scan.Count(r, api.MaxWords)
	if count == 0 {
		r.Fail(api.ErrForm)
	}
	for range count {
		words = append(words, scan.Word(r, func(s string) bool { return fresh(words, s) }))
	}
	return words
}
