package entry

import (
	"slices"
	"strings"
	"testing"

	"dioptre/api"
	"dioptre/fault"
	"dioptre/sample"
	"dioptre/trial"
)

// noughts are so many bytes 0.
func noughts(n int) string { return strings.Repeat("\x00", n) }

// What stands at the beginning of entries without parents, and at the end of any: the version, and the key and the signature, of writeOf.
var (
	version = "\x07" + noughts(30) + "\x08"
	tail    = "\x09" + noughts(30) + "\x0a" + "\x0b" + noughts(62) + "\x0c"
)

// name is the bytes of a name that begins, and ends, so.
func name(first, last byte) string {
	h := hash(first, last)
	return string(h[:])
}

// entryBytes are right entries, and their bytes.
var entryBytes = []struct {
	e api.Entry
	b string
}{
	{api.Entry{Kind: api.Write, Op: remove(nil, 3)}, "\x01" + noughts(32) + "\x00\x03\x00\x03" + noughts(96)},
	{writeOf(remove(nil, 3)), "\x01" + version + "\x00\x03\x00\x03" + tail},
	{writeOf(set(steps("ab", 300), text("xy"))), "\x01" + version + "\x00\x01\x02\x02ab\x00\xac\x02\x03\x02xy" + tail},
	{writeOf(insert(steps("l"), 9, 300, num(-1)), hash(1, 2)), "\x01" + version + "\x01" + name(1, 2) + "\x02\x01\x01l\x09\xac\x02\x02\x01" + tail},
	{writeOf(move(nil, 1, 0), api.Hash{}), "\x01" + version + "\x01" + noughts(32) + "\x04\x00\x01\x00" + tail},
	{writeOf(remove(nil, 3), api.Hash{}, hash(0, 1), hash(1, 0), hash(1, 1)), "\x01" + version + "\x04" + noughts(32) + name(0, 1) + name(1, 0) + name(1, 1) + "\x03\x00\x03" + tail},
	{writeOf(remove(nil, 3), hash(127, 255), hash(128, 0)), "\x01" + version + "\x02" + name(127, 255) + name(128, 0) + "\x03\x00\x03" + tail},
	{api.Entry{Kind: api.Publish, Lens: wrap("a")}, "\x02" + noughts(32) + "\x00\x06\x01a" + noughts(96)},
	{publishOf(rename("a", "b")), "\x02" + version + "\x00\x01\x01a\x01b" + tail},
	{publishOf(sample.Add("ab", listOf(of(api.Int)), nums(1)), hash(1, 2), hash(3, 4)), "\x02" + version + "\x02" + name(1, 2) + name(3, 4) + "\x02\x02ab\x06\x02\x06\x01\x01\x02\x14" + tail},
	{publishOf(within(wrap("z"), 4), hash(0, 1), hash(0, 2), hash(0, 3)), "\x02" + version + "\x03" + name(0, 1) + name(0, 2) + name(0, 3) + "\x0a\x01a\x09\x01a\x0a\x01a\x09\x01a\x06\x01z" + tail},
}

// TestBytes: P17.1, P17.2, P17.5: the bytes of each kind; they are decoded, those that are cut off, or followed by others, are refused.
func TestBytes(t *testing.T) {
	for _, c := range entryBytes {
		if got := wantBytes(c.e); string(got) != c.b {
			t.Errorf("the model's bytes of %v: %x", c.e, got)
		}
		code.Known(t, c.e, c.b)
	}
	for _, e := range rightEntries() {
		code.Known(t, e, string(wantBytes(e)))
	}
}

// TestBytesWrong: P17.1: ErrArg of an entry that isn't right, also of one that has too many bytes, too.
func TestBytesWrong(t *testing.T) {
	for name, e := range wrongEntries() {
		code.Refused(t, name, e, api.ErrArg)
		if e.Kind == api.Write && len(e.Parents) > 0 {
			e.Op = set(nil, sample.Large(5000))
			code.Refused(t, name+", long", e, api.ErrArg)
		}
	}
	long := set(nil, sample.Large(5000))
	for name, e := range map[string]api.Entry{
		"no kind": {Op: long}, "kind 3": {Kind: 3, Op: long}, "a long operation beside a lens": {Kind: api.Publish, Lens: wrap("a"), Op: long}, "a long operation and a lens": {Kind: api.Write, Lens: wrap("a"), Op: long},
		"a long lens beside an operation": {Kind: api.Write, Op: remove(nil, 3), Lens: longLens(5000)}, "a long lens and an operation": {Kind: api.Publish, Op: remove(nil, 3), Lens: longLens(5000)},
		"a long operation that isn't right": writeOf(set(steps("A"), sample.Large(5000))), "a long lens that isn't right": publishOf(in("A", longLens(5000))), "a lens and its parents": publishOf(longLens(5000), hash(2, 0), hash(1, 0)),
	} {
		code.Refused(t, name, e, api.ErrArg)
	}
}

// longLens is a lens whose value has so many bytes.
func longLens(n int) api.Lens {
	return sample.Remove("a", listOf(listOf(of(api.Text))), sample.Large(n))
}

// TestLong: P17.1, P17.2: at most MaxBytes bytes, all of the entry's counted; with more it isn't right.
func TestLong(t *testing.T) {
	four := rising()[:4]
	for _, parents := range [][]api.Hash{nil, four[:1], four} {
		for size := 4090; size < 4100; size++ {
			for _, e := range []api.Entry{writeOf(set(steps("ab"), num(0)), parents...), writeOf(insert(nil, 300, 1, num(0)), parents...), publishOf(longLens(1000), parents...)} {
				x := e
				if e.Kind == api.Write {
					x.Op.Value = sample.Large(size - len(wantBytes(e)) + 2)
				} else {
					x.Lens = longLens(size - len(wantBytes(e)) + 1000)
				}
				want := wantBytes(x)
				if len(want) != size {
					t.Fatal("not so many bytes:", len(want), size)
				}
				code.Sized(t, x, want)
				checkRight(t, "so many bytes", x, size <= 4096)
			}
		}
	}
	for _, n := range []int{3900, 4000, 4090, 4097, 5000, 9000} {
		for _, e := range []api.Entry{writeOf(set(nil, sample.Large(n)), four...), writeOf(insert(nil, 1, 0, sample.Large(n)), four...), publishOf(longLens(n), four...), publishOf(in("b", longLens(n)), four...)} {
			code.Refused(t, "too many bytes", e, api.ErrLong)
			checkRight(t, "too many bytes", e, false)
		}
	}
	for _, b := range [][]byte{make([]byte, 4097), slices.Repeat([]byte("\x01"), 5000), append([]byte(entryBytes[0].b), make([]byte, 4096)...), make([]byte, 100000)} {
		code.TooLong(t, b)
	}
	right := entryBytes[0].b
	code.Fails(t, "4096, most of them left", right+noughts(4096-len(right)), trial.Wrong{Code: api.ErrForm, Place: len(right)})
}

// wrongBytes are bytes, and what is wrong with them, in which place, whatever stands behind them.
var wrongBytes = []struct {
	name, b string
	code    api.Errno
	place   int
}{
	{"kind 0", "\x00", api.ErrKind, 1},
	{"kind 3", "\x03" + version + "\x00\x03\x00\x03" + tail, api.ErrKind, 1},
	{"kind 129", "\x81" + version + "\x00\x03\x00\x03" + tail, api.ErrKind, 1},
	{"kind 255, no parents' number", "\xff" + version + "\x05", api.ErrKind, 1},
	{"five parents", "\x01" + version + "\x05" + name(0, 1) + name(0, 2) + name(0, 3) + name(0, 4) + name(0, 5) + "\x03\x00\x03" + tail, api.ErrLong, 34},
	{"five parents, the same", "\x02" + version + "\x05" + noughts(160), api.ErrLong, 34},
	{"five parents, none there", "\x02" + version + "\x05", api.ErrLong, 34},
	{"300 parents", "\x01" + version + "\xac\x02" + name(0, 1), api.ErrLong, 35},
	{"very many parents", "\x01" + version + "\xff\xff\xff\xff\xff\xff\xff\xff\xff\x01", api.ErrLong, 43},
	{"too many parents for a number", "\x01" + version + "\xff\xff\xff\xff\xff\xff\xff\xff\xff\x02", api.ErrForm, 33},
	{"a number of parents that isn't short", "\x01" + version + "\x80\x00\x03\x00\x03" + tail, api.ErrForm, 33},
	{"one parent, a number that isn't short", "\x01" + version + "\x81\x00" + name(0, 1) + "\x03\x00\x03" + tail, api.ErrForm, 33},
	{"a parent twice", "\x01" + version + "\x02" + name(1, 2) + name(1, 2) + "\x03\x00\x03" + tail, api.ErrForm, 98},
	{"the zero parent twice", "\x01" + version + "\x02" + noughts(64) + "\x03\x00\x03" + tail, api.ErrForm, 98},
	{"parents that fall", "\x02" + version + "\x02" + name(2, 0) + name(1, 255) + "\x06\x01a" + tail, api.ErrForm, 98},
	{"parents that fall by their last byte", "\x02" + version + "\x02" + name(1, 128) + name(1, 127) + "\x06\x01a" + tail, api.ErrForm, 98},
	{"the zero parent behind another one", "\x02" + version + "\x02" + name(0, 1) + noughts(32) + "\x06\x01a" + tail, api.ErrForm, 98},
	{"the second parent falls, of three", "\x02" + version + "\x03" + name(2, 0) + name(1, 0) + name(3, 0) + "\x06\x01a" + tail, api.ErrForm, 98},
	{"the second parent falls, the third lacks", "\x02" + version + "\x03" + name(2, 0) + name(1, 0), api.ErrForm, 98},
	{"the third parent falls", "\x02" + version + "\x03" + name(2, 0) + name(3, 0) + name(1, 0) + "\x06\x01a" + tail, api.ErrForm, 130},
	{"the third parent is the first", "\x01" + version + "\x04" + name(2, 0) + name(3, 0) + name(2, 0) + name(4, 0), api.ErrForm, 130},
	{"the fourth parent twice", "\x01" + version + "\x04" + name(2, 0) + name(3, 0) + name(4, 0) + name(4, 0) + "\x03\x00\x03" + tail, api.ErrForm, 162},
	{"parents that fall, no kind of operation", "\x01" + version + "\x02" + name(2, 0) + name(1, 0) + "\x07", api.ErrForm, 98},
	{"no kind of operation", "\x01" + version + "\x00\x05\x00\x03" + tail, api.ErrKind, 35},
	{"the operation 0", "\x01" + version + "\x00\x00" + tail, api.ErrKind, 35},
	{"a lens for an operation", "\x01" + version + "\x00\x06\x01a" + tail, api.ErrKind, 35},
	{"no kind of operation behind two parents", "\x01" + version + "\x02" + name(1, 0) + name(2, 0) + "\x05", api.ErrKind, 99},
	{"an operation at nine steps", "\x01" + version + "\x00\x03\x09", api.ErrLong, 36},
	{"an operation's wrong name", "\x01" + version + "\x00\x03\x01\x01A\x03" + tail, api.ErrForm, 38},
	{"a Delete of 0", "\x01" + version + "\x00\x03\x00\x00" + tail, api.ErrForm, 37},
	{"a Move behind itself", "\x01" + version + "\x00\x04\x00\x05\x05" + tail, api.ErrForm, 38},
	{"a Set of a wrong value", "\x01" + version + "\x00\x01\x00\x01\x02" + tail, api.ErrForm, 37},
	{"a Set of no kind of value", "\x01" + version + "\x00\x01\x00\x07" + tail, api.ErrKind, 37},
	{"a Set of six deep", "\x01" + version + "\x00\x01\x00" + strings.Repeat("\x06\x01\x01", 5) + "\x02\x00" + tail, api.ErrDeep, 51},
	{"no kind of lens", "\x02" + version + "\x00\x0b\x01a" + tail, api.ErrKind, 35},
	{"the lens 0", "\x02" + version + "\x00\x00\x01a" + tail, api.ErrKind, 35},
	{"a lens's wrong name", "\x02" + version + "\x00\x06\x01A" + tail, api.ErrForm, 37},
	{"an operation for a lens", "\x02" + version + "\x00\x03\x00\x03" + tail, api.ErrForm, 36},
	{"a Rename of itself", "\x02" + version + "\x00\x01\x01a\x01a" + tail, api.ErrForm, 39},
	{"a Convert of nine", "\x02" + version + "\x00\x08\x01a\x02\x02\x00\x02\x00\x09", api.ErrLong, 43},
	{"a lens six deep", "\x02" + version + "\x00" + strings.Repeat("\x09\x01a", 5) + "\x06\x01a" + tail, api.ErrDeep, 49},
	{"a lens's wrong name behind a parent", "\x02" + version + "\x01" + name(0, 0) + "\x06\x01A" + tail, api.ErrForm, 69},
}

// cutBytes are bytes that are wrong by where they end.
var cutBytes = []struct {
	name, b string
	place   int
}{
	{"none", "", 0},
	{"no version", "\x01", 1},
	{"a version of 31", "\x02" + noughts(31), 1},
	{"no number of parents", "\x01" + version, 33},
	{"a number of parents that goes on", "\x01" + version + "\x81", 33},
	{"a parent that lacks", "\x01" + version + "\x01", 34},
	{"a parent of 31", "\x02" + version + "\x01" + noughts(31), 34},
	{"a second parent of 31, which falls", "\x02" + version + "\x02" + name(5, 5) + noughts(31), 66},
	{"a fourth parent that lacks", "\x02" + version + "\x04" + name(5, 5) + name(6, 6) + name(7, 7), 130},
	{"no operation", "\x01" + version + "\x00", 34},
	{"no path", "\x01" + version + "\x00\x03", 35},
	{"no Id", "\x01" + version + "\x00\x03\x00", 36},
	{"no lens", "\x02" + version + "\x01" + name(5, 5), 66},
	{"a lens without a name", "\x02" + version + "\x00\x06", 35},
	{"no key", "\x01" + version + "\x00\x03\x00\x03", 37},
	{"a key of 31", "\x01" + version + "\x00\x03\x00\x03" + tail[:31], 37},
	{"no signature", "\x01" + version + "\x00\x03\x00\x03" + tail[:32], 69},
	{"a signature of 63", "\x02" + version + "\x00\x06\x01a" + tail[:95], 69},
}

// TestErrors: P17.2: each error, in its place, the first one from the left.
func TestErrors(t *testing.T) {
	for _, c := range cutBytes {
		code.Fails(t, c.name, c.b, trial.Wrong{Code: api.ErrForm, Place: c.place})
	}
	for _, c := range wrongBytes {
		for _, rest := range []string{"", "\x00", "\x09\x09", noughts(300)} {
			code.Fails(t, c.name, c.b+rest, trial.Wrong{Code: c.code, Place: c.place})
		}
	}
	for _, rest := range []string{"\x00", "\x01", noughts(64), entryBytes[1].b} {
		code.Fails(t, "bytes are left", entryBytes[1].b+rest, trial.Wrong{Code: api.ErrForm, Place: 133})
	}
}

// TestDecodeAll: P17.2: all bytes up to five of those that say something, between a version or a parent and a key, as the model says.
func TestDecodeAll(t *testing.T) {
	right := 0
	for _, parents := range []string{"", "\x00", "\x01" + name(1, 2), "\x02" + name(1, 2) + name(1, 3)} {
		for _, b := range upTo(5, "\x00", "\x01", "\x02", "\x03", "\x06", "a", "b") {
			for _, kind := range []string{"\x01", "\x02"} {
				if code.Decoded(t, []byte(kind+version+parents+b+tail)) {
					right++
				}
			}
		}
	}
	if right < 200 {
		t.Error("right:", right)
	}
}

// upTo are all texts of at most so many of these.
func upTo(most int, letters ...string) []string {
	last := []string{""}
	all := last
	for range most {
		var next []string
		for _, s := range last {
			for _, c := range letters {
				next = append(next, s+c)
			}
		}
		all, last = append(all, next...), next
	}
	return all
}

// TestSignatureIsntAsked: P17.2: an entry is decoded, whoever has signed it, or nobody, and whatever its key is.
func TestSignatureIsntAsked(t *testing.T) {
	r := chance()
	for range 300 {
		e := someEntry(r)
		got, err := Decode(wantBytes(e))
		if err != nil || !equal(got, e) || Signed(got) {
			t.Fatalf("%v: %v %v", e, got, err)
		}
	}
}

// TestBytesAny: P17.1, P17.2, P17.5: any entries are encoded and decoded; bytes that were changed somewhere, as the model says.
func TestBytesAny(t *testing.T) {
	r := chance()
	count := map[bool]int{}
	for range 10000 {
		e := someEntry(r)
		if r.IntN(4) == 0 {
			spoil(r, &e)
		}
		if want := wantError(e); want != api.OK {
			code.Refused(t, "one that isn't right", e, want)
			continue
		}
		want := wantBytes(e)
		code.Encoded(t, e, want)
		if got, err := Decode(want); err != nil || !equal(got, e) {
			t.Fatalf("Decode of %x: %v %v, not %v", want, got, err, e)
		}
		// Most of an entry is names: what stands between them is changed more often.
		content := 34 + 32*len(e.Parents)
		i := []int{r.IntN(len(want)), 0, 33, content, content + r.IntN(len(want)-96-content)}[r.IntN(5)]
		count[code.Changed(t, r.IntN, want, i)]++
	}
	if count[true] < 1000 || count[false] < 1000 {
		t.Errorf("%v", count)
	}
}

// TestErrorPlaces: P17.1, P17.2: errors of Encode, and ErrLong of Decode, have no place; each other one of Decode has one.
func TestErrorPlaces(t *testing.T) {
	_, wrong := Encode(api.Entry{})
	_, long := Encode(writeOf(set(nil, sample.Large(5000))))
	_, tooMany := Decode(make([]byte, 4097))
	_, kind := Decode(nil)
	for i, err := range []error{wrong, long, tooMany, kind} {
		if places := fault.Places(err); len(places) != max(i-2, 0) {
			t.Errorf("error %d: %v, in %v", i, err, places)
		}
	}
}
