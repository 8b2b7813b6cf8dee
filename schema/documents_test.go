package schema

import (
	"reflect"
	"slices"
	"strings"
	"testing"

	"dioptre/api"
	"dioptre/sample"
	"dioptre/value"
)

// What the tests are made of.
var (
	num, truth, text, word        = sample.Num, sample.Truth, sample.Text, sample.Word
	fieldsOf                      = sample.Record
	plain, roomy, whole, scramble = sample.PlainSchema, sample.RoomySchema, sample.WholeSchema, sample.ScrambleSchema
)

func elements(parts ...api.Value) api.Value {
	v := api.Value{Kind: api.List, Parts: parts}
	for i := range parts {
		v.Ids = append(v.Ids, uint64(len(parts)-i))
	}
	return v
}

// TestFits: P9.1: of each kind values that fit and such that don't.
func TestFits(t *testing.T) {
	colour, pair := enum("red", "blue"), record([]string{"a", "c"}, of(api.Int), enum("red", "blue"))
	for _, c := range []struct {
		name string
		v    api.Value
		s    api.Schema
		want bool
	}{
		{"true", truth(1), of(api.Bool), true},
		{"a Bool of 2", truth(2), of(api.Bool), false},
		{"a Bool and Int", truth(1), of(api.Int), false},
		{"an Int and Bool", num(1), of(api.Bool), false},
		{"an Int", num(-9), of(api.Int), true},
		{"a text", text("red"), of(api.Text), true},
		{"64 bytes", text(strings.Repeat("x", 64)), of(api.Text), true},
		{"65 bytes", text(strings.Repeat("x", 65)), of(api.Text), false},
		{"a text and Enum", text("red"), colour, false},
		{"a word and Text", word("red"), of(api.Text), false},
		{"the first word", word("red"), colour, true},
		{"the last word", word("blue"), colour, true},
		{"another word", word("green"), colour, false},
		{"part of a word", word("re"), colour, false},
		{"no word", word(""), colour, false},
		{"an enum without words", word("red"), enum(), false},
		{"an enum of one word twice", word("red"), enum("red", "red"), false},
		{"a record", fieldsOf([]string{"a", "c"}, num(1), word("red")), pair, true},
		{"a record's wrong part", fieldsOf([]string{"a", "c"}, num(1), word("green")), pair, false},
		{"a record's wrong part ahead", fieldsOf([]string{"a", "c"}, truth(1), word("red")), pair, false},
		{"another name", fieldsOf([]string{"a", "d"}, num(1), word("red")), pair, false},
		{"a name lacks", fieldsOf([]string{"a"}, num(1)), pair, false},
		{"a name more", fieldsOf([]string{"a", "c", "d"}, num(1), word("red"), num(1)), pair, false},
		{"no names", fieldsOf(nil), pair, false},
		{"an empty record", fieldsOf(nil), record(nil), true},
		{"a name too many", fieldsOf([]string{"a"}, num(1)), record(nil), false},
		{"parts too many", fieldsOf([]string{"a", "c"}, num(1), word("red"), num(1)), pair, false},
		{"parts too few", fieldsOf([]string{"a", "c"}, num(1)), pair, false},
		{"a record and a list", fieldsOf(nil), list(of(api.Int)), false},
		{"a list and a record", elements(), record(nil), false},
		{"an empty list", elements(), list(of(api.Int)), true},
		{"a list", elements(num(1), num(2)), list(of(api.Int)), true},
		{"a list's wrong part ahead", elements(truth(1), num(2)), list(of(api.Int)), false},
		{"a list's wrong part", elements(num(1), num(2), truth(1)), list(of(api.Int)), false},
		{"twelve elements", elements(slices.Repeat([]api.Value{num(1)}, 12)...), list(of(api.Int)), true},
		{"13 elements", elements(slices.Repeat([]api.Value{num(1)}, 13)...), list(of(api.Int)), false},
		{"a number twice", api.Value{Kind: api.List, Ids: []uint64{1, 1}, Parts: []api.Value{num(1), num(1)}}, list(of(api.Int)), false},
		{"within", elements(elements(), elements(fieldsOf([]string{"a"}, word("red")))), inLists(record([]string{"a"}, colour), 2), true},
		{"wrong within", elements(elements(), elements(fieldsOf([]string{"a"}, word("green")))), inLists(record([]string{"a"}, colour), 2), false},
		{"five deep", elements(elements(elements(elements(num(1))))), inLists(of(api.Int), 4), true},
		{"six deep", elements(elements(elements(elements(elements(num(1)))))), inLists(of(api.Int), 5), false},
		{"a schema six deep", elements(), inLists(of(api.Int), 5), false},
		{"zero", api.Value{}, api.Schema{}, false},
		{"kind 7", api.Value{Kind: 7}, of(7), false},
		{"a list of none", elements(), of(api.List), false},
		{"a list of two", elements(), api.Schema{Kind: api.List, Parts: many(2)}, false},
		{"a record that isn't right", fieldsOf([]string{"b", "a"}, num(1), num(1)), record([]string{"b", "a"}, of(api.Int), of(api.Int)), false},
		{"an Int with words", num(1), api.Schema{Kind: api.Int, Words: []string{"a"}}, false},
		{"an Int with a text", api.Value{Kind: api.Int, S: "a"}, of(api.Int), false},
		{"a wrong schema beside", elements(), list(enum()), false},
		{"lists that aren't nil", api.Value{Kind: api.Record, Names: []string{}, Ids: []uint64{}, Parts: []api.Value{}}, record(nil), true},
	} {
		if Fits(c.v, c.s) != c.want {
			t.Errorf("%s: Fits(%v, %v) is %v", c.name, c.v, c.s, !c.want)
		}
	}
}

// wantFits: whether a value fits a schema, by the chapter's words.
func wantFits(v api.Value, s api.Schema) bool {
	ok := value.Right(v) && wantRight(s) && v.Kind == s.Kind
	if ok && s.Kind == api.Enum {
		ok = slices.Contains(s.Words, v.S)
	}
	if ok && s.Kind == api.Record {
		ok = strings.Join(v.Names, " ") == strings.Join(s.Words, " ")
	}
	for i := 0; ok && i < len(v.Parts); i++ {
		ok = wantFits(v.Parts[i], s.Parts[min(i, len(s.Parts)-1)])
	}
	return ok
}

// TestFitsAny: P9.1: values that fit, and schemas that were changed somewhere, as the model says.
func TestFitsAny(t *testing.T) {
	r := chance()
	count := map[bool]int{}
	for range 20000 {
		s := someSchema(r, 5)
		v := someFitting(r, s)
		if !Fits(v, s) {
			t.Fatalf("%v doesn't fit %v", v, s)
		}
		other := plain(s)
		spoil(r, &other)
		if r.IntN(2) == 0 {
			other = someSchema(r, 2)
		}
		want := wantFits(v, other)
		count[want]++
		if Fits(v, other) != want {
			t.Fatalf("Fits(%v, %v) is %v", v, other, !want)
		}
	}
	if count[true] < 200 || count[false] < 2000 {
		t.Errorf("%v", count)
	}
}

// TestDefault: P9.1, P9.4: the default of each kind; it fits.
func TestDefault(t *testing.T) {
	for _, c := range []struct {
		s    api.Schema
		want api.Value
	}{
		{of(api.Bool), truth(0)},
		{of(api.Int), num(0)},
		{of(api.Text), text("")},
		{enum("red", "blue"), word("red")},
		{enum("b", "a"), word("b")},
		{record(nil), api.Value{Kind: api.Record}},
		{record([]string{"a", "b", "c"}, enum("x"), of(api.Text), list(of(api.Int))), fieldsOf([]string{"a", "b", "c"}, word("x"), text(""), api.Value{Kind: api.List})},
		{list(of(api.Int)), api.Value{Kind: api.List}},
		{inLists(of(api.Int), 4), api.Value{Kind: api.List}},
		{inRecords(enum("z"), 4), fieldsOf([]string{"a"}, fieldsOf([]string{"a"}, fieldsOf([]string{"a"}, fieldsOf([]string{"a"}, word("z")))))},
	} {
		if v := Default(c.s); !reflect.DeepEqual(v, c.want) || !Fits(v, c.s) {
			t.Errorf("Default of %v: %v", c.s, v)
		}
	}
	for name, s := range rightSchemas() {
		if v := Default(s); !Fits(v, s) || !wantFits(v, s) {
			t.Errorf("%s: Default of %v: %v doesn't fit", name, s, v)
		}
	}
	r := chance()
	for range 5000 {
		s := someSchema(r, 5)
		if v := Default(s); !Fits(v, s) {
			t.Errorf("Default of %v: %v doesn't fit", s, v)
		}
		spoil(r, &s)
		if v := Default(s); wantRight(s) != Fits(v, s) || !wantRight(s) && !reflect.DeepEqual(v, api.Value{}) {
			t.Errorf("Default of %v: %v", s, v)
		}
	}
}

// TestDefaultOwn: a default shares nothing with its schema, nor with another one.
func TestDefaultOwn(t *testing.T) {
	checkOwn(t, "Default, Fits", record([]string{"a", "b"}, enum("x", "y"), record([]string{"c"}, of(api.Int))), of(api.Int), func(s, _ api.Schema) api.Schema {
		v := Default(s)
		Fits(v, s)
		v.Names[0], v.Parts[0].S, v.Parts[1].Names[0] = "z", "z", "z"
		again := Default(s)
		if again.Names[0] != "a" || again.Parts[0].S != "x" || again.Parts[1].Names[0] != "c" {
			t.Error("a default is kept:", again)
		}
		return of(api.Int)
	})
	v := elements(num(1), num(2))
	Fits(v, list(of(api.Int)))
	if !value.Same(v, elements(num(1), num(2))) {
		t.Error("Fits has changed a value:", v)
	}
}
