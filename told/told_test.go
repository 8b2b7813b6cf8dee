package told

import (
	"testing"

	"dioptre/api"
	"dioptre/sample"
)

// TestThereAndBack: what texts tell is told by these again.
func TestThereAndBack(t *testing.T) {
	for _, c := range []struct {
		s    string
		many int
	}{{"", 0}, {"5", 1}, {`{a=5,b=[7:#red]} "x" true`, 3}, {"{} [] {}", 3}} {
		l := Docs(c.s)
		if len(l) != c.many || Texts(l) != c.s {
			t.Errorf("%s: %d documents, %s", c.s, len(l), Texts(l))
		}
	}
	if v := Doc("[3:5]"); v.Kind != api.List || len(v.Ids) != 1 || v.Ids[0] != 3 || v.Parts[0].N != 5 || Text(v) != "[3:5]" {
		t.Errorf("Doc: %v", v)
	}
	if s := Texts([]api.Value{Doc("5"), {}, {Kind: 7}}); s != "5 not right not right" {
		t.Error("Texts of values that aren't right:", s)
	}
}

// TestNoText: who is wrong about a text hears it.
func TestNoText(t *testing.T) {
	for _, s := range []string{"", "x", "{a=5} ", "[0:1]"} {
		func() {
			defer func() { _ = recover() }()
			t.Errorf("%s: %v", s, Doc(s))
		}()
	}
}

// TestSchema: each kind's text, also within others.
func TestSchema(t *testing.T) {
	of := sample.Of
	pair := sample.RecordOf([]string{"a", "b"}, of(api.Int), sample.ListOf(of(api.Enum, "red", "blue")))
	for _, c := range []struct {
		s    api.Schema
		want string
	}{
		{of(api.Bool), "bool"},
		{of(api.Int), "int"},
		{of(api.Text), "text"},
		{of(api.Enum, "red"), "#red"},
		{sample.RecordOf(nil), "{}"},
		{pair, "{a=int,b=[#red#blue]}"},
		{sample.ListOf(sample.ListOf(pair)), "[[{a=int,b=[#red#blue]}]]"},
		{api.Schema{}, "not right"},
	} {
		if got := Schema(c.s); got != c.want {
			t.Errorf("%v: %s, not %s", c.s, got, c.want)
		}
	}
	if s := Schemas([]api.Schema{pair, of(api.Int)}); s != "{a=int,b=[#red#blue]} int" || Schemas(nil) != "" {
		t.Error("Schemas:", s)
	}
}
