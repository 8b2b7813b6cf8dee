package value

import (
	"math"
	"strings"
	"testing"

	"dioptre/api"
	"dioptre/trial"
)

// TestName: P8.1: of 1 to 12 bytes, each a small letter, a digit, or _ .
func TestName(t *testing.T) {
	for s, want := range map[string]bool{
		"": false, "a": true, "0": true, "_": true, "a_1": true, "zzz": true, "09_az": true,
		"abcdefghijkl": true, "abcdefghijklm": false, "____________": true, "_____________": false,
		"A": false, "a ": false, " a": false, "a-b": false, "a\x00": false, "ä": false, "a\xff": false, "ab\n": false,
	} {
		if Name(s) != want {
			t.Errorf("Name(%q) is %v", s, !want)
		}
	}
	for n := range 30 {
		if s := strings.Repeat("a", n); Name(s) != (n >= 1 && n <= 12) {
			t.Errorf("Name of %d bytes is %v", n, Name(s))
		}
	}
	if Name(strings.Repeat("a", 1<<20)) {
		t.Error("Name of a long text")
	}
	for _, s := range []string{"a", "ab", "abcdefghijkl"} {
		for i := range len(s) {
			for c := range 256 {
				name := s[:i] + string([]byte{byte(c)}) + s[i+1:]
				if Name(name) != trial.Name(name) {
					t.Errorf("Name(%q) is %v", name, Name(name))
				}
			}
		}
	}
}

var (
	eight  = []string{"a", "b", "c", "d", "e", "f", "g", "h"}
	nine   = append(eight[:8:8], "i")
	twelve = []uint64{9, 1, 12, 3, math.MaxUint64, 5, 6, 7, 8, 2, 10, 11}
	more   = append(twelve[:12:12], 13)
)

// many are as many small values.
func many(n int) []api.Value {
	var l []api.Value
	for i := range n {
		l = append(l, num(i))
	}
	return l
}

// rightValues are right, each kind, and at the edges.
func rightValues() map[string]api.Value {
	return map[string]api.Value{
		"false": truth(0), "true": truth(1),
		"0": num(0), "-1": num(-1), "the greatest": num(math.MaxInt), "the least": num(math.MinInt),
		"no text": text(""), "any bytes": text("\x00\xff\"A ä"), "64 bytes": text(strings.Repeat("\xee", 64)),
		"word": word("a"), "word of 12": word("abcdefghij_9"),
		"empty record": record(nil), "record": record([]string{"a", "b"}, truth(1), num(5)),
		"names that begin alike": record([]string{"0", "_", "a", "aa", "ab", "b"}, many(6)...),
		"eight fields":           record(eight, many(8)...),
		"empty list":             list(nil), "list": list([]uint64{4, 9, 1}, num(1), text("x"), record(nil)),
		"twelve elements":  list(twelve, many(12)...),
		"five deep, lists": inLists(num(1), 4), "five deep, records": inRecords(truth(1), 4),
		"five deep, an empty list": inLists(list(nil), 4), "five deep, an empty record": inLists(record(nil), 4),
		"five deep, mixed": inRecords(inLists(word("a"), 2), 2), "deep behind": list([]uint64{1, 2}, num(1), inRecords(num(1), 3)),
		"lists that aren't nil":          {Kind: api.Int, Names: []string{}, Ids: []uint64{}, Parts: []api.Value{}},
		"a record's that aren't nil":     {Kind: api.Record, Names: []string{}, Ids: []uint64{}, Parts: []api.Value{}},
		"a list's lists that aren't nil": {Kind: api.List, Names: []string{}, Ids: []uint64{}, Parts: []api.Value{}},
	}
}

// wrongValues aren't right.
func wrongValues() map[string]api.Value {
	return map[string]api.Value{
		"zero": {}, "kind 7": {Kind: 7}, "kind -1": {Kind: -1}, "kind 257": {Kind: 257}, "kind 262": {Kind: 262}, "the least kind": {Kind: math.MinInt},
		"Bool of 2": truth(2), "Bool of -1": truth(-1), "Bool of the least": truth(math.MinInt), "Bool of 256": truth(256),
		"65 bytes": text(strings.Repeat("x", 65)), "a long text": text(strings.Repeat("x", 5000)),
		"no word": word(""), "word of 13": word("abcdefghijklm"), "great word": word("A"), "blank word": word("a b"),
		"nine fields": record(nine, many(9)...), "fewer parts": record([]string{"a", "b"}, num(1)), "more parts": record([]string{"a"}, num(1), num(2)),
		"no parts": record([]string{"a"}), "no names": record(nil, num(1)), "nine names, eight parts": record(nine, many(8)...),
		"the same names": record([]string{"a", "a"}, num(1), num(2)), "the same names behind": record([]string{"0", "a", "a"}, many(3)...),
		"names that fall": record([]string{"b", "a"}, num(1), num(2)), "that fall behind": record([]string{"a", "c", "b"}, many(3)...),
		"the longer one first": record([]string{"aa", "a"}, num(1), num(2)),
		"a name of none":       record([]string{""}, num(1)), "a name of 13": record([]string{"abcdefghijklm"}, num(1)), "a great name": record([]string{"A", "b"}, num(1), num(2)),
		"a wrong part": record([]string{"a", "b"}, num(1), truth(2)), "a part of no kind": record([]string{"a"}, api.Value{}),
		"13 elements": list(more, many(13)...), "fewer parts of a list": list([]uint64{1, 2}, num(1)), "more parts of a list": list([]uint64{1}, num(1), num(2)),
		"no parts of a list": list([]uint64{1}), "no numbers": list(nil, num(1)), "13 numbers, 12 parts": list(more, many(12)...),
		"the number 0": list([]uint64{0}, num(1)), "0 behind": list([]uint64{1, 2, 0}, many(3)...),
		"a number twice": list([]uint64{3, 3}, num(1), num(2)), "twice, apart": list([]uint64{3, 1, 2, 3}, many(4)...),
		"a list's wrong part": list([]uint64{1, 2}, num(1), word("")), "a list's part of no kind": list([]uint64{1}, api.Value{}),
		"six deep, lists": inLists(num(1), 5), "six deep, records": inRecords(num(1), 5), "six deep, empty": inLists(list(nil), 5),
		"six deep, mixed": inLists(inRecords(record(nil), 2), 3), "six deep behind": list([]uint64{1, 2}, num(1), inLists(num(1), 4)), "far too deep": inLists(num(1), 100),
	}
}

// odds are values with one field that isn't named for their kind.
func odds() []api.Value {
	var l []api.Value
	for _, v := range []api.Value{truth(0), truth(1), num(0), num(3), text(""), text("a"), word("a"), record(nil), record([]string{"a"}, num(1)), list(nil), list([]uint64{1}, num(1))} {
		scalar := v.Kind < api.Record
		if v.Kind > api.Int {
			for _, n := range []int{1, -1, math.MinInt} {
				with := v
				with.N = n
				l = append(l, with)
			}
		}
		if v.Kind != api.Text && v.Kind != api.Enum {
			with := v
			with.S = "a"
			l = append(l, with)
		}
		if v.Kind != api.Record {
			with := v
			with.Names = []string{"a"}
			l = append(l, with)
		}
		if v.Kind != api.List {
			with := v
			with.Ids = []uint64{1}
			l = append(l, with)
		}
		if scalar {
			with := v
			with.Parts = []api.Value{num(1)}
			l = append(l, with)
		}
	}
	return l
}

// checkRight: Right says this, and so does the model; what isn't right has no bytes, and isn't part of what is.
func checkRight(t *testing.T, name string, v api.Value, want bool) {
	t.Helper()
	if Right(v) != want || wantRight(v) != want {
		t.Errorf("%s: Right of %v: %v, the model: %v", name, v, Right(v), wantRight(v))
	}
	_, e := Encode(v)
	if (e == nil) != want {
		t.Errorf("%s: Encode of %v: %v", name, v, e)
	}
	if !want {
		b, e := Encode(v)
		trial.Code(t, name, e, api.ErrArg)
		if len(b) > 0 || Right(list([]uint64{2, 1}, num(1), v)) || Right(record([]string{"a", "b"}, v, num(1))) {
			t.Errorf("%s: %x", name, b)
		}
	}
}

// TestRight: P8.1: values of each kind, at the edges, and wrong ones.
func TestRight(t *testing.T) {
	for name, v := range rightValues() {
		checkRight(t, name, v, true)
	}
	for name, v := range wrongValues() {
		checkRight(t, name, v, false)
	}
	for _, v := range odds() {
		checkRight(t, "a field that isn't named", v, false)
	}
}

// TestRightAny: P8.1: any values, right ones and such as were changed somewhere, as the model says.
func TestRightAny(t *testing.T) {
	r := chance()
	count := map[bool]int{}
	for range 20000 {
		v := someValue(r, 5)
		if !Right(v) || !wantRight(v) {
			t.Fatalf("Right of %v: %v", v, Right(v))
		}
		for range 1 + r.IntN(2) {
			spoil(r, &v)
		}
		want := wantRight(v)
		count[want]++
		if Right(v) != want {
			t.Fatalf("Right of %v: %v", v, !want)
		}
	}
	if count[true] < 2000 || count[false] < 2000 {
		t.Errorf("%v", count)
	}
}
