package note

import (
	"fmt"
	"math"
	"slices"
	"strings"
	"testing"

	"dioptre/api"
	"dioptre/path"
	"dioptre/value"
)

var (
	eight  = []string{"a", "b", "c", "d", "e", "f", "g", "h"}
	twelve = []uint64{9, 1, 12, 3, math.MaxUint64, 5, 6, 7, 8, 2, 10, 11}
)

// many are as many small values.
func many(n int) []api.Value {
	var l []api.Value
	for i := range n {
		l = append(l, num(i))
	}
	return l
}

// valueTexts are right values, and their texts.
var valueTexts = []struct {
	v api.Value
	s string
}{
	{truth(0), `false`},
	{truth(1), `true`},
	{num(0), `0`},
	{num(5), `5`},
	{num(-5), `-5`},
	{num(100), `100`},
	{num(math.MaxInt), `9223372036854775807`},
	{num(math.MinInt), `-9223372036854775808`},
	{quote(""), `""`},
	{quote("x"), `"x"`},
	{quote("x\n"), `"x\0a"`},
	{quote("\""), `"\22"`},
	{quote("\\"), `"\5c"`},
	{quote("\\22"), `"\5c22"`},
	{quote("\x00\x1f !~\x7f\x80\xff"), `"\00\1f !~\7f\80\ff"`},
	{quote("ä"), `"\c3\a4"`},
	{quote("A'[],{}=:#/"), `"A'[],{}=:#/"`},
	{quote(strings.Repeat("\xee", 64)), `"` + strings.Repeat(`\ee`, 64) + `"`},
	{quote(strings.Repeat("x", 64)), `"` + strings.Repeat(`x`, 64) + `"`},
	{word("red"), `#red`},
	{word("true"), `#true`},
	{word("5"), `#5`},
	{word("abcdefghij_9"), `#abcdefghij_9`},
	{record(nil), `{}`},
	{record([]string{"a"}, num(1)), `{a=1}`},
	{record([]string{"a", "b"}, truth(1), list([]uint64{3}, quote("x\n"))), `{a=true,b=[3:"x\0a"]}`},
	{record([]string{"0", "_", "a", "true"}, many(4)...), `{0=0,_=1,a=2,true=3}`},
	{record(eight, many(8)...), `{a=0,b=1,c=2,d=3,e=4,f=5,g=6,h=7}`},
	{list(nil), `[]`},
	{list([]uint64{5}, record(nil)), `[5:{}]`},
	{list([]uint64{4, 2}, word("a"), list(nil)), `[4:#a,2:[]]`},
	{list(twelve, many(12)...), `[9:0,1:1,12:2,3:3,18446744073709551615:4,5:5,6:6,7:7,8:8,2:9,10:10,11:11]`},
	{inLists(num(-1), 4), `[1:[1:[1:[1:-1]]]]`},
	{inLists(record(nil), 4), `[1:[1:[1:[1:{}]]]]`},
	{inLists(record([]string{"a", "b"}, quote(","), quote("]")), 3), `[1:[1:[1:{a=",",b="]"}]]]`},
	{record([]string{"a"}, record([]string{"a"}, record([]string{"a"}, record([]string{"a"}, truth(0))))), `{a={a={a={a=false}}}}`},
}

// TestPrint: P11.1: each kind's text.
func TestPrint(t *testing.T) {
	for _, c := range valueTexts {
		if s, e := Print(c.v); e != nil || s != c.s || wantText(c.v) != c.s {
			t.Errorf("Print of %v: %s %v, not %s; the model: %s", c.v, s, e, c.s, wantText(c.v))
		}
	}
}

// TestPrintBytes: P11.1: each byte of a text, alone and between others.
func TestPrintBytes(t *testing.T) {
	for n := range 256 {
		c := string([]byte{byte(n)})
		want := c
		if n < 0x20 || n > 0x7e || c == `"` || c == `\` {
			want = fmt.Sprintf(`\%02x`, n)
		}
		for _, around := range []string{"", "a", "\\", "\x00"} {
			v := quote(around + c + around)
			s, e := Print(v)
			inner := strings.Trim(wantText(quote(around)), `"`)
			if e != nil || s != `"`+inner+want+inner+`"` {
				t.Errorf("Print of %q: %s %v", v.S, s, e)
			}
			if back, e := Parse(s); e != nil || !value.Same(back, v) {
				t.Errorf("Parse of %s: %v %v", s, back, e)
			}
		}
	}
}

// wrongValues aren't right.
func wrongValues() []api.Value {
	ring := inLists(num(1), 1)
	ring.Parts[0] = ring
	deep := num(1)
	for range 1000000 {
		deep = list([]uint64{1}, deep)
	}
	return []api.Value{
		{}, {Kind: 7}, {Kind: -1}, truth(2), truth(-1), quote(strings.Repeat("x", 65)), word(""), word("A"), word("abcdefghijklm"), word("a b"),
		{Kind: api.Int, S: "a"}, {Kind: api.Text, N: 1}, {Kind: api.Enum, S: "a", N: 1}, {Kind: api.Bool, Ids: []uint64{1}}, {Kind: api.Int, Parts: many(1)},
		record([]string{"b", "a"}, many(2)...), record([]string{"a", "a"}, many(2)...), record([]string{"a"}), record(nil, num(1)), record([]string{"A"}, num(1)),
		record(append(eight[:8:8], "i"), many(9)...), record([]string{"a"}, api.Value{}), {Kind: api.Record, N: 1}, {Kind: api.Record, Ids: []uint64{1}, Parts: many(1)},
		list([]uint64{0}, num(1)), list([]uint64{1, 1}, many(2)...), list([]uint64{1}), list(nil, num(1)), list(append(twelve[:12:12], 13), many(13)...),
		list([]uint64{1}, truth(2)), inLists(num(1), 5), inLists(record([]string{"a"}, list([]uint64{1}, num(1))), 3), ring, deep,
	}
}

// TestPrintWrong: P11.1: ErrArg of a value that isn't right, and no text; no lines.
func TestPrintWrong(t *testing.T) {
	for i, v := range wrongValues() {
		s, e := Print(v)
		checkError(t, fmt.Sprint("wrong value ", i), e, api.ErrArg)
		if s != "" || len(Lines(v)) > 0 {
			t.Errorf("wrong value %d: %q, lines %q", i, s, Lines(v))
		}
	}
}

// TestPathText: P11.2: of each step a / and its name, or, without one, its number; / of no steps.
func TestPathText(t *testing.T) {
	for _, c := range []struct {
		p    []api.Step
		want string
	}{
		{nil, "/"},
		{[]api.Step{}, "/"},
		{[]api.Step{{Name: "a"}}, "/a"},
		{[]api.Step{{Id: 7}}, "/7"},
		{[]api.Step{{Name: "7"}}, "/7"},
		{[]api.Step{{Id: math.MaxUint64}}, "/18446744073709551615"},
		{[]api.Step{{Name: "a"}, {Id: 12}}, "/a/12"},
		{[]api.Step{{Id: 1}, {Name: "abc"}, {Name: "_"}, {Id: 300}}, "/1/abc/_/300"},
		// Paths that aren't right.
		{[]api.Step{{}}, "/0"},
		{[]api.Step{{}, {}}, "/0/0"},
		{[]api.Step{{Name: "a", Id: 5}}, "/a"},
		{[]api.Step{{Name: "A b/\x00\xff"}}, "/A b/\x00\xff"},
		{slices.Repeat([]api.Step{{Name: "ab"}, {Id: 1}}, 50), strings.Repeat("/ab/1", 50)},
	} {
		if got := PathText(c.p); got != c.want {
			t.Errorf("PathText of %v: %q, not %q", c.p, got, c.want)
		}
	}
	if got := PathText(slices.Repeat([]api.Step{{Id: 1}}, 1000000)); got != strings.Repeat("/1", 1000000) {
		t.Error("PathText of many:", len(got))
	}
}

// TestLines: P11.2: of each part that has none itself a line.
func TestLines(t *testing.T) {
	for _, c := range []struct {
		v    api.Value
		want []string
	}{
		{num(5), []string{"/ 5"}},
		{word("a"), []string{"/ #a"}},
		{quote(" \n"), []string{`/ " \0a"`}},
		{record(nil), []string{"/ {}"}},
		{list(nil), []string{"/ []"}},
		{record([]string{"a", "b"}, truth(1), list([]uint64{3}, quote("x\n"))), []string{"/a true", `/b/3 "x\0a"`}},
		{list([]uint64{9, 4}, num(1), num(2)), []string{"/9 1", "/4 2"}},
		{list([]uint64{9, 4, 5}, list(nil), record(nil), list([]uint64{1}, record(nil))), []string{"/9 []", "/4 {}", "/5/1 {}"}},
		{record([]string{"a", "b", "c"}, record([]string{"c"}, num(1)), num(2), record([]string{"a"}, num(3))), []string{"/a/c 1", "/b 2", "/c/a 3"}},
		{inLists(truth(0), 4), []string{"/1/1/1/1 false"}},
	} {
		if got := Lines(c.v); !slices.Equal(got, c.want) {
			t.Errorf("Lines of %v: %q", c.v, got)
		}
	}
}

// TestLinesAny: P11.2: of any values, as the chapter says, in the order of All; what is answered is new each time.
func TestLinesAny(t *testing.T) {
	r := chance()
	for range 3000 {
		v := someValue(r, 5)
		var want []string
		for _, p := range path.All(v) {
			if x, _ := path.Get(v, p...); len(x.Parts) == 0 {
				want = append(want, PathText(p)+" "+wantText(x))
			}
		}
		l := Lines(v)
		if !slices.Equal(l, want) {
			t.Fatalf("Lines of %v: %q, not %q", v, l, want)
		}
		clear(l)
		if !slices.Equal(Lines(v), want) {
			t.Fatal("what was told is kept")
		}
	}
}

// TestLinesMany: P11.2: of a value with as many parts as it may have.
func TestLinesMany(t *testing.T) {
	v := num(1)
	for range 4 {
		v = list(twelve, slices.Repeat([]api.Value{v}, 12)...)
	}
	l := Lines(v)
	if len(l) != 20736 || l[0] != "/9/9/9/9 1" || l[20735] != "/11/11/11/11 1" || l[1] != "/9/9/9/1 1" {
		t.Error("Lines of many:", len(l))
	}
	s, e := Print(v)
	if back, e2 := Parse(s); e != nil || e2 != nil || !value.Same(back, v) {
		t.Error("Print and Parse of many:", e, e2)
	}
}
