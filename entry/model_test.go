package entry

import (
	"crypto/ed25519"
	"crypto/sha256"
	"math/rand/v2"
	"reflect"
	"slices"
	"strings"

	"dioptre/api"
	"dioptre/lens"
	"dioptre/op"
	"dioptre/sample"
	"dioptre/trial"
)

// chance makes numbers, always the same ones.
func chance() *rand.Rand { return rand.New(rand.NewPCG(17, 2026)) }

// What the tests are made of.
var (
	num, text, word, nums     = sample.Num, sample.Text, sample.Word, sample.Nums
	list, inLists, steps      = sample.List, sample.InLists, sample.Steps
	of, listOf                = sample.Of, sample.ListOf
	set, insert, remove, move = sample.Set, sample.Insert, sample.Delete, sample.Move
	rename, wrap, in, within  = sample.Rename, sample.Wrap, sample.In, sample.Within
	hash, rising              = sample.Hash, sample.Hashes
	plain, roomy              = sample.PlainEntry, sample.RoomyEntry
	whole, scramble           = sample.WholeEntry, sample.ScrambleEntry
)

// writeOf is an entry of an operation, publishOf one of a lens; nobody has signed them.
func writeOf(o api.Op, parents ...api.Hash) api.Entry {
	return api.Entry{Kind: api.Write, Version: hash(7, 8), Parents: parents, Op: o, Key: api.Key(hash(9, 10)), Sig: api.Sig{0: 11, 63: 12}}
}

func publishOf(l api.Lens, parents ...api.Hash) api.Entry {
	e := writeOf(api.Op{}, parents...)
	e.Kind, e.Lens = api.Publish, l
	return e
}

// equal holds two entries against each other by the library's means; a list without elements is the same as none.
func equal(a, b api.Entry) bool { return reflect.DeepEqual(plain(a), plain(b)) }

// wantFit: whether all of an entry is right but that it may have too many bytes, by the chapter's words.
func wantFit(e api.Entry) bool {
	e = plain(e)
	named := api.Entry{Kind: e.Kind, Version: e.Version, Parents: e.Parents, Key: e.Key, Sig: e.Sig}
	ok := len(e.Parents) < 5
	for i := range e.Parents {
		ok = ok && (i == 0 || trial.Ahead(e.Parents[i-1], e.Parents[i]))
	}
	switch e.Kind {
	case api.Write:
		named.Op = e.Op
		ok = ok && op.Right(e.Op)
	case api.Publish:
		named.Lens = e.Lens
		ok = ok && lens.Right(e.Lens)
	default:
		return false
	}
	return ok && reflect.DeepEqual(named, e)
}

// wantBytes is the bytes of an entry that may have too many, by the chapter's words; nil, if its operation, or its lens, alone has.
func wantBytes(e api.Entry) []byte {
	content, err := op.Encode(e.Op)
	if e.Kind == api.Publish {
		content, err = lens.Encode(e.Lens)
	}
	if err != nil {
		return nil
	}
	b := append([]byte{byte(e.Kind)}, e.Version[:]...)
	b = append(b, byte(len(e.Parents)))
	for _, h := range e.Parents {
		b = append(b, h[:]...)
	}
	return slices.Concat(b, content, e.Key[:], e.Sig[:])
}

// wantError is the error of an entry that is to be encoded.
func wantError(e api.Entry) api.Errno {
	if !wantFit(e) {
		return api.ErrArg
	}
	if b := wantBytes(e); b == nil || len(b) > 4096 {
		return api.ErrLong
	}
	return api.OK
}

// wantSign is an entry with the seed's key and its signature, told by the library.
func wantSign(seed api.Seed, e api.Entry) api.Entry {
	private := ed25519.NewKeyFromSeed(seed[:])
	e.Key = api.Key(private[32:])
	b := wantBytes(e)
	e.Sig = api.Sig(ed25519.Sign(private, b[:len(b)-64]))
	return e
}

// wantName is the name of bytes, told by the library.
func wantName(b []byte) api.Hash { return sha256.Sum256(b) }

// readEntry reads an entry, by the chapter's words.
func readEntry(m *trial.Model) (e api.Entry) {
	e.Kind, e.Version = m.Kind(2), api.Hash(m.Raw(32))
	for i := range m.Count(4) {
		h := api.Hash(m.Raw(32))
		m.Ask(i == 0 || trial.Ahead(e.Parents[i-1], h), api.ErrForm, m.At)
		e.Parents = append(e.Parents, h)
	}
	if e.Kind == api.Write {
		e.Op = trial.Below(m, op.Read)
	} else {
		e.Lens = trial.Below(m, lens.Read)
	}
	e.Key, e.Sig = api.Key(m.Raw(32)), api.Sig(m.Raw(64))
	return e
}

// code is how entries are written and read.
var code = trial.Bytes[api.Entry]{
	Encode: Encode, Decode: Decode, Equal: equal, Model: readEntry, Roomy: roomy, Whole: whole, Scramble: scramble,
}

// some are any bytes.
func some(r *rand.Rand, n int) []byte {
	b := make([]byte, n)
	for i := range b {
		b[i] = byte(r.Uint32())
	}
	return b
}

// someHash is a name; many begin alike, or are alike.
func someHash(r *rand.Rand) api.Hash { return sample.SomeHash(r.IntN) }

// someEntry is an entry that is right.
func someEntry(r *rand.Rand) api.Entry {
	e := api.Entry{Kind: api.Write + r.IntN(2), Version: api.Hash(some(r, 32)), Key: api.Key(some(r, 32)), Sig: api.Sig(some(r, 64))}
	for range r.IntN(6) {
		e.Parents = append(e.Parents, someHash(r))
	}
	slices.SortFunc(e.Parents, func(a, b api.Hash) int { return strings.Compare(string(a[:]), string(b[:])) })
	e.Parents = slices.Compact(e.Parents)
	e.Parents = e.Parents[:min(len(e.Parents), 4)]
	if e.Kind == api.Write {
		s := sample.SomeSchema(r.IntN, 4)
		e.Op = sample.SomeOp(r.IntN, s, sample.SomeFit(r.IntN, s))
	} else {
		e.Lens = sample.SomeLens(r.IntN, sample.SomeRecord(r.IntN), 5)
	}
	return e
}

// spoil changes something in an entry: mostly it isn't right then.
func spoil(r *rand.Rand, e *api.Entry) {
	switch r.IntN(7) {
	case 0:
		e.Kind = []int{-1, 0, 1, 2, 3, 257, 258}[r.IntN(7)]
	case 1:
		e.Parents = append(slices.Clone(e.Parents), someHash(r))
	case 2:
		slices.Reverse(e.Parents)
	case 3:
		e.Parents = append(slices.Clone(e.Parents), e.Parents...)
	case 4:
		sample.SpoilOp(r.IntN, &e.Op)
	case 5:
		sample.SpoilLens(r.IntN, &e.Lens)
	default:
		e.Version, e.Key, e.Sig = someHash(r), api.Key(someHash(r)), api.Sig{}
	}
}
