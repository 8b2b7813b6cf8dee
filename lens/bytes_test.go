package lens

import (
	"slices"
	"strings"
	"testing"

	"dioptre/api"
	"dioptre/sample"
	"dioptre/trial"
)

// lensBytes are right lenses, and their bytes.
var lensBytes = []struct {
	l api.Lens
	b string
}{
	{rename("a", "b"), "\x01\x01a\x01b"},
	{rename("abcdefghij_9", "_"), "\x01\x0cabcdefghij_9\x01_"},
	{add("a", of(api.Int), num(5)), "\x02\x01a\x02\x02\x0a"},
	{add("ab", recordOf([]string{"x"}, colour), fields([]string{"x"}, word("red"))), "\x02\x02ab\x05\x01\x01x\x04\x02\x03red\x04blue\x05\x01\x01x\x04\x03red"},
	{add("a", listOf(of(api.Bool)), list([]uint64{300}, truth(1))), "\x02\x01a\x06\x01\x06\x01\xac\x02\x01\x01"},
	{remove("a", of(api.Text), text("xy")), "\x03\x01a\x03\x03\x02xy"},
	{remove("a", recordOf(nil), fields(nil)), "\x03\x01a\x05\x00\x05\x00"},
	{hoist("a", "bc"), "\x04\x01a\x02bc"},
	{plunge("bc", "a"), "\x05\x02bc\x01a"},
	{wrap("a"), "\x06\x01a"},
	{head("0_"), "\x07\x020_"},
	{convert("a", of(api.Bool), truth(1), num(-1)), "\x08\x01a\x01\x01\x01\x02\x01\x00"},
	{convert("a", colour, word("blue"), text(""), api.Pair{X: num(1), Y: word("red")}, api.Pair{X: truth(0), Y: word("blue")}), "\x08\x01a\x04\x02\x03red\x04blue\x04\x04blue\x03\x00\x02\x02\x02\x04\x03red\x01\x00\x04\x04blue"},
	{convert("a", of(api.Int), num(0), word("w"), slices.Repeat([]api.Pair{{X: word("x"), Y: num(0)}}, 8)...), "\x08\x01a\x02\x02\x00\x04\x01w\x08" + strings.Repeat("\x04\x01x\x02\x00", 8)},
	{in("a", rename("a", "b")), "\x09\x01a\x01\x01a\x01b"},
	{each("r", wrap("x")), "\x0a\x01r\x06\x01x"},
	{within(head("z"), 4), "\x0a\x01a\x09\x01a\x0a\x01a\x09\x01a\x07\x01z"},
	{in("b", each("c", add("d", of(api.Int), num(1)))), "\x09\x01b\x0a\x01c\x02\x01d\x02\x02\x02"},
}

// TestBytes: P14.3, P14.4: the bytes of each kind; they are decoded, those that are cut off, or followed by others, are refused.
func TestBytes(t *testing.T) {
	for _, c := range lensBytes {
		if got := wantBytes(c.l); string(got) != c.b {
			t.Errorf("the model's bytes of %v: %x", c.l, got)
		}
		code.Known(t, c.l, c.b)
	}
	for _, l := range rightLenses() {
		code.Known(t, l, string(wantBytes(l)))
	}
}

// TestBytesWrong: P14.3: ErrArg of a lens that isn't right, also of one that is too long.
func TestBytesWrong(t *testing.T) {
	for name, l := range wrongLenses() {
		code.Refused(t, name, l, api.ErrArg)
		code.Refused(t, name+", within", in("a", l), api.ErrArg)
	}
	for extra, lay := range extras {
		for name, l := range map[string]api.Lens{"Head": head("a"), "Add": add("a", listOf(listOf(of(api.Text))), sample.Large(5000)), "Rename": rename("a", "b")} {
			x := plain(l)
			lay(&x)
			if !has(l, strings.Split(extra, "'")[0]) {
				code.Refused(t, name+" with "+extra, x, api.ErrArg)
			}
		}
	}
	code.Refused(t, "no name, long", add("", listOf(listOf(of(api.Text))), sample.Large(5000)), api.ErrArg)
	code.Refused(t, "six deep, long", within(add("a", listOf(listOf(of(api.Text))), sample.Large(5000)), 5), api.ErrArg)
}

// TestLong: P14.3: at most MaxBytes bytes, all of the lens's counted.
func TestLong(t *testing.T) {
	texts := listOf(listOf(of(api.Text)))
	for _, ahead := range []api.Lens{add("a", texts, list(nil)), remove("abcdefghijkl", texts, list(nil)), in("a", add("b", texts, list(nil))), within(remove("b", texts, list(nil)), 4)} {
		without := len(wantBytes(ahead)) - 2
		for size := 4090; size < 4100; size++ {
			l := plain(ahead)
			last := &l
			for len(last.Inner) > 0 {
				last = &last.Inner[0]
			}
			last.Base = sample.Large(size - without)
			checkSized(t, l, size)
		}
	}
	for name, l := range map[string]api.Lens{
		"a value of 4097": add("a", texts, sample.Large(4097)), "a value of 9000": remove("a", texts, sample.Large(9000)), "a type": add("a", listOf(sample.LargeSchema(4100)), list(nil)),
		"a value within": in("a", each("b", add("a", texts, sample.Large(5000)))), "a type within": each("a", in("b", remove("a", listOf(sample.LargeSchema(4100)), list(nil)))),
	} {
		checkRight(t, name, l, true)
		code.Refused(t, name, l, api.ErrLong)
	}
	for _, b := range [][]byte{make([]byte, 4097), slices.Repeat([]byte("\x09\x01a"), 2000), append([]byte("\x06\x01a"), make([]byte, 4094)...), make([]byte, 100000)} {
		code.TooLong(t, b)
	}
	code.Fails(t, "4096, most of them left", "\x06\x01a"+strings.Repeat("\x00", 4093), trial.Wrong{Code: api.ErrForm, Place: 3})
}

// checkSized holds a lens of so many bytes against the limit.
func checkSized(t *testing.T, l api.Lens, size int) {
	t.Helper()
	want := wantBytes(l)
	if want == nil {
		code.Refused(t, "a value that is too long alone", l, api.ErrLong)
		return
	}
	if len(want) != size {
		t.Fatal("not so many bytes:", len(want), size)
	}
	code.Sized(t, l, want)
}

// wrongBytes are bytes, and what is wrong with them, in which place, whatever stands behind them.
var wrongBytes = []struct {
	name, b string
	code    api.Errno
	place   int
}{
	{"kind 0", "\x00\x01a", api.ErrKind, 1},
	{"kind 11", "\x0b\x01a", api.ErrKind, 1},
	{"kind 129", "\x81\x01a\x01b", api.ErrKind, 1},
	{"kind 255 ahead of a wrong name", "\xff\x01A", api.ErrKind, 1},
	{"no name", "\x06\x00", api.ErrForm, 2},
	{"a great name", "\x06\x01A", api.ErrForm, 3},
	{"a name of 13", "\x07\x0dabcdefghijklm", api.ErrForm, 15},
	{"a name of 64", "\x07\x40" + strings.Repeat("a", 64), api.ErrForm, 66},
	{"a name of 65", "\x07\x41" + strings.Repeat("A", 65), api.ErrLong, 1},
	{"a name, not short", "\x06\x81\x00a", api.ErrForm, 1},
	{"Rename of no name", "\x01\x00\x01b", api.ErrForm, 2},
	{"Rename of a wrong one, to a wrong one", "\x01\x01A\x01B", api.ErrForm, 3},
	{"Rename to none", "\x01\x01a\x00", api.ErrForm, 4},
	{"Rename to a great name", "\x01\x01a\x01B", api.ErrForm, 5},
	{"Rename to itself", "\x01\x01a\x01a", api.ErrForm, 5},
	{"Rename to itself, long", "\x01\x0cabcdefghijkl\x0cabcdefghijkl", api.ErrForm, 27},
	{"Rename to 65", "\x01\x01a\x41" + strings.Repeat("a", 65), api.ErrLong, 3},
	{"Hoist of itself", "\x04\x01b\x01b", api.ErrForm, 5},
	{"Hoist of none", "\x04\x01b\x00", api.ErrForm, 4},
	{"Plunge of itself", "\x05\x02bc\x02bc", api.ErrForm, 7},
	{"Plunge of a long one", "\x05\x02bc\x0dabcdefghijklm", api.ErrForm, 18},
	{"Add, no kind of type", "\x02\x01a\x00", api.ErrKind, 4},
	{"Add, a type's word", "\x02\x01a\x04\x01\x01A", api.ErrForm, 7},
	{"Add, an enum without words", "\x02\x01a\x04\x00", api.ErrForm, 5},
	{"Add, a type six deep", "\x02\x01a\x06\x06\x06\x06\x06", api.ErrDeep, 8},
	{"Add, no kind of value", "\x02\x01a\x02\x09", api.ErrKind, 5},
	{"Add, a value's own", "\x02\x01a\x01\x01\x02", api.ErrForm, 5},
	{"Add, another kind", "\x02\x01a\x02\x01\x01", api.ErrForm, 6},
	{"Add, another word", "\x02\x01a\x04\x01\x01r\x04\x01s", api.ErrForm, 10},
	{"Add, another element", "\x02\x01a\x06\x02\x06\x01\x07\x01\x01", api.ErrForm, 10},
	{"Add, another name", "\x02\x01a\x05\x01\x01x\x02\x05\x01\x01y\x02\x08", api.ErrForm, 14},
	{"Add, another kind, a long one", "\x02\x01a\x02\x03\x05abcde", api.ErrForm, 11},
	{"Remove, another kind", "\x03\x01a\x03\x02\x00", api.ErrForm, 6},
	{"Remove, no kind of value", "\x03\x01a\x03\x00", api.ErrKind, 5},
	{"Convert to a list", "\x08\x01a\x06\x02\x06\x00\x02\x00\x00", api.ErrForm, 5},
	{"Convert to a record", "\x08\x01a\x05\x00\x05\x00\x02\x00\x00", api.ErrForm, 5},
	{"Convert to a record, no value", "\x08\x01a\x05\x01\x01x\x02\x00", api.ErrForm, 8},
	{"Convert to no kind", "\x08\x01a\x07", api.ErrKind, 4},
	{"Convert, another kind", "\x08\x01a\x02\x01\x00\x02\x00\x00", api.ErrForm, 6},
	{"Convert, another kind, a wrong Back", "\x08\x01a\x02\x01\x00\x09", api.ErrForm, 6},
	{"Convert, back to a list", "\x08\x01a\x02\x02\x00\x06\x00\x00", api.ErrForm, 8},
	{"Convert, back to a record", "\x08\x01a\x02\x02\x00\x05\x01\x01x\x02\x00\x00", api.ErrForm, 12},
	{"Convert, back to a list, nine", "\x08\x01a\x02\x02\x00\x06\x00\x09", api.ErrForm, 8},
	{"Convert, back to no kind", "\x08\x01a\x02\x02\x00\x00\x00", api.ErrKind, 7},
	{"Convert, nine", "\x08\x01a\x02\x02\x00\x02\x00\x09", api.ErrLong, 9},
	{"Convert, 300", "\x08\x01a\x02\x02\x00\x02\x00\xac\x02", api.ErrLong, 10},
	{"Convert, very many", "\x08\x01a\x02\x02\x00\x02\x00\xff\xff\xff\xff\xff\xff\xff\xff\xff\x01", api.ErrLong, 18},
	{"Convert, too many for a number", "\x08\x01a\x02\x02\x00\x02\x00\xff\xff\xff\xff\xff\xff\xff\xff\xff\x02", api.ErrForm, 8},
	{"Convert, a number that isn't short", "\x08\x01a\x02\x02\x00\x02\x00\x81\x00", api.ErrForm, 8},
	{"Convert, an X of parts", "\x08\x01a\x02\x02\x00\x02\x00\x01\x06\x00\x02\x00", api.ErrForm, 11},
	{"Convert, an X of parts, a wrong Y", "\x08\x01a\x02\x02\x00\x02\x00\x01\x05\x00\x09", api.ErrForm, 11},
	{"Convert, an X of no kind", "\x08\x01a\x02\x02\x00\x02\x00\x01\x00", api.ErrKind, 10},
	{"Convert, another Y", "\x08\x01a\x02\x02\x00\x02\x00\x01\x01\x01\x01\x01", api.ErrForm, 13},
	{"Convert, a Y of no kind", "\x08\x01a\x02\x02\x00\x02\x00\x01\x01\x01\x08", api.ErrKind, 12},
	{"Convert, a second Y", "\x08\x01a\x02\x02\x00\x02\x00\x02\x01\x01\x02\x01\x01\x01\x03\x00", api.ErrForm, 17},
	{"Convert, a second X", "\x08\x01a\x02\x02\x00\x02\x00\x02\x01\x01\x02\x01\x06\x00\x02\x00", api.ErrForm, 15},
	{"In, no name", "\x09\x00\x06\x01a", api.ErrForm, 2},
	{"In of no kind", "\x09\x01a\x00\x01a", api.ErrKind, 4},
	{"In of a wrong name", "\x09\x01a\x06\x01A", api.ErrForm, 6},
	{"In of Rename of itself", "\x09\x01a\x01\x01b\x01b", api.ErrForm, 8},
	{"Map of no kind", "\x0a\x01a\x0b", api.ErrKind, 4},
	{"Map of In of a wrong type", "\x0a\x01a\x09\x01b\x08\x01c\x06\x02", api.ErrForm, 11},
	{"six deep", "\x09\x01a\x0a\x01a\x09\x01a\x09\x01a\x0a\x01a\x06\x01a", api.ErrDeep, 15},
	{"six deep, no kind", "\x09\x01a\x0a\x01a\x09\x01a\x09\x01a\x0a\x01a\x00", api.ErrDeep, 15},
	{"a wrong name, five deep", "\x09\x01a\x0a\x01a\x09\x01a\x09\x01a\x0a\x01A", api.ErrForm, 15},
	{"no kind, five deep", "\x09\x01a\x0a\x01a\x09\x01a\x09\x01a\x00", api.ErrKind, 13},
	{"ahead of what is left over", "\x01\x01a\x01a\x00\x00", api.ErrForm, 5},
}

// cutBytes are bytes that are wrong by where they end.
var cutBytes = []struct {
	name, b string
	code    api.Errno
	place   int
}{
	{"none", "", api.ErrForm, 0},
	{"no name", "\x06", api.ErrForm, 1},
	{"a name, fewer left", "\x06\x02a", api.ErrForm, 1},
	{"a name's number that goes on", "\x06\x80", api.ErrForm, 1},
	{"Rename without a B", "\x01\x01a", api.ErrForm, 3},
	{"Hoist, a B, fewer left", "\x04\x01a\x02b", api.ErrForm, 3},
	{"Add without a type", "\x02\x01a", api.ErrForm, 3},
	{"Add without a value", "\x02\x01a\x02", api.ErrForm, 4},
	{"Remove, a value that ends", "\x03\x01a\x02\x02", api.ErrForm, 5},
	{"Convert without a type", "\x08\x01a", api.ErrForm, 3},
	{"Convert without a Base", "\x08\x01a\x02", api.ErrForm, 4},
	{"Convert without a Back", "\x08\x01a\x02\x02\x00", api.ErrForm, 6},
	{"Convert without a number", "\x08\x01a\x02\x02\x00\x02\x00", api.ErrForm, 8},
	{"Convert without an X", "\x08\x01a\x02\x02\x00\x02\x00\x01", api.ErrForm, 9},
	{"Convert without a Y", "\x08\x01a\x02\x02\x00\x02\x00\x01\x01\x01", api.ErrForm, 11},
	{"Convert, one pair of two", "\x08\x01a\x02\x02\x00\x02\x00\x02\x01\x01\x02\x01", api.ErrForm, 13},
	{"In of none", "\x09\x01a", api.ErrForm, 3},
	{"Map of one that ends", "\x0a\x01a\x06", api.ErrForm, 4},
	{"five deep, none", "\x09\x01a\x0a\x01a\x09\x01a\x09\x01a", api.ErrForm, 12},
	{"six deep, none", "\x09\x01a\x0a\x01a\x09\x01a\x09\x01a\x0a\x01a", api.ErrDeep, 15},
}

// TestErrors: P14.3: each error, in its place, the first one from the left.
func TestErrors(t *testing.T) {
	for _, c := range cutBytes {
		code.Fails(t, c.name, c.b, trial.Wrong{Code: c.code, Place: c.place})
	}
	for _, c := range wrongBytes {
		for _, rest := range []string{"", "\x00", "\x09\x09"} {
			code.Fails(t, c.name, c.b+rest, trial.Wrong{Code: c.code, Place: c.place})
		}
	}
	// As many lenses within lenses as one likes.
	code.Fails(t, "lenses within lenses", strings.Repeat("\x09\x01a", 1365), trial.Wrong{Code: api.ErrDeep, Place: 15})
}

// TestSeveral: P14.3: lenses that stand one behind the other are read one by one; they may have more than MaxBytes bytes.
func TestSeveral(t *testing.T) {
	var l []api.Lens
	for _, c := range lensBytes {
		l = append(l, c.l)
	}
	code.Several(t, slices.Repeat(l, 40)...)
}

// TestDecodeAll: P14.3: all bytes up to five of those that say something, alone and behind what begins a lens, as the model says.
func TestDecodeAll(t *testing.T) {
	right := 0
	for _, ahead := range []string{"", "\x08\x01a\x01\x01\x00", "\x0a\x01a\x02\x01a", "\x08\x01a\x02\x02\x00\x01\x01\x01"} {
		right += code.All(t, ahead, "\x00\x01\x02\x03\x06\x09ab", 5)
	}
	if right < 300 {
		t.Error("right:", right)
	}
}

// TestBytesAny: P14.3, P14.4: any lenses are encoded and decoded; bytes that were changed somewhere, as the model says.
func TestBytesAny(t *testing.T) {
	r := chance()
	count := map[bool]int{}
	for range 15000 {
		l := sample.SomeLens(r.IntN, sample.SomeRecord(r.IntN), 5)
		if r.IntN(5) == 0 {
			sample.SpoilLens(r.IntN, &l)
		}
		want := wantBytes(l)
		switch {
		case !wantRight(l):
			code.Refused(t, "one that isn't right", l, api.ErrArg)
		case want == nil || len(want) > 4096:
			code.Refused(t, "one that is too long", l, api.ErrLong)
		default:
			code.Encoded(t, l, want)
			if got, e := Decode(want); e != nil || !equal(got, l) {
				t.Fatalf("Decode of %x: %v %v, not %v", want, got, e, l)
			}
			count[code.Changed(t, r.IntN, want, r.IntN(len(want)))]++
		}
	}
	if count[true] < 1000 || count[false] < 1000 {
		t.Errorf("%v", count)
	}
}
