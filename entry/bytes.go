package entry

import (
	"dioptre/api"
	"dioptre/lens"
	"dioptre/op"
	"dioptre/pack"
	"dioptre/scan"
)

// Encode is an entry's bytes.
func Encode(e api.Entry) ([]byte, error) {
	b, err := toSign(e)
	if err != nil {
		return nil, err
	}
	return append(b, e.Sig[:]...), nil
}

// toSign is what is signed of an entry; Encode's error, if that isn't right.
func toSign(e api.Entry) ([]byte, error) {
	if len(e.Parents) > api.MaxParents || !rise(e.Parents) {
		return nil, api.ErrArg
	}
	content, err := encodeContent(e)
	if err != nil {
		return nil, err
	}
	var w pack.Writer
	w.Byte(byte(e.Kind))
	w.Raw(e.Version[:]...)
	w.Number(uint64(len(e.Parents)))
	for _, h := range e.Parents {
		w.Raw(h[:]...)
	}
	w.Raw(content...)
	w.Raw(e.Key[:]...)
	b := w.Out()
	if len(b)+len(e.Sig) > api.MaxBytes {
		return nil, api.ErrLong
	}
	return b, nil
}

// encodeContent is the bytes of what an entry's kind says that it has: ErrArg, if it has anything else.
func encodeContent(e api.Entry) ([]byte, error) {
	switch {
	case e.Kind == api.Write && lens.Same(api.Lens{}, e.Lens):
		return op.Encode(e.Op)
	case e.Kind == api.Publish && op.Same(api.Op{}, e.Op):
		return lens.Encode(e.Lens)
	}
	return nil, api.ErrArg
}

// Decode is the entry of bytes.
func Decode(b []byte) (api.Entry, error) { return scan.Whole(b, read) }

// read reads an entry; of a broken reader anything.
func read(r *pack.Reader) api.Entry {
	e := api.Entry{Kind: scan.Kind(r, api.Publish)}
	fill(r, e.Version[:])
	e.Parents = readParents(r)
	switch e.Kind {
	case api.Write:
		e.Op = op.Read(r)
	case api.Publish:
		e.Lens = lens.Read(r)
	}
	fill(r, e.Key[:])
	fill(r, e.Sig[:])
	return e
}

// readParents reads names, each of which is behind the one before it.
func readParents(r *pack.Reader) []api.Hash {
	var l []api.Hash
	for range scan.Count(r, api.MaxParents) {
		var h api.Hash
		fill(r, h[:])
		l = append(l, h)
		if !rise(l) {
			r.Fail(api.ErrForm)
		}
	}
	return l
}

// fill reads as many bytes as there is room for.
func fill(r *pack.Reader, room []byte) { copy(room, r.Raw(len(room))) }
