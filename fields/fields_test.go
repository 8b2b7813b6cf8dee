package fields

import (
	"slices"
	"strings"
	"testing"

	"dioptre/api"
	"dioptre/fault"
	"dioptre/pack"
)

// TestName: of 1 to 12 bytes, each a small letter, a digit, or _ .
func TestName(t *testing.T) {
	for c := range 256 {
		want := strings.Contains("abcdefghijklmnopqrstuvwxyz0123456789_", string(rune(c)))
		for _, s := range []string{string([]byte{byte(c)}), string([]byte{'a', byte(c)}), string([]byte{byte(c), 'a'})} {
			if Name(s) != want {
				t.Errorf("Name(%q): %v", s, Name(s))
			}
		}
	}
	for n := range 20 {
		if Name(strings.Repeat("a", n)) != (n > 0 && n < 13) {
			t.Error("Name of", n)
		}
	}
}

// TestRight: names, rising, at most eight, and as many parts.
func TestRight(t *testing.T) {
	for _, c := range []struct {
		names string
		parts int
		want  bool
	}{
		{"", 0, true}, {"", 1, false}, {"a", 1, true}, {"a", 0, false}, {"a", 2, false}, {"a b", 2, true}, {"0 _ a aa b", 5, true},
		{"b a", 2, false}, {"a a", 2, false}, {"aa a", 2, false}, {"a A", 2, false}, {"a c b", 3, false}, {"abcdefghijklm", 1, false},
		{"a b c d e f g h", 8, true}, {"a b c d e f g h i", 9, false}, {"a b c d e f g h i", 8, false},
	} {
		if Right(strings.Fields(c.names), c.parts) != c.want {
			t.Errorf("Right(%q, %d): %v", c.names, c.parts, !c.want)
		}
	}
	if Right([]string{""}, 1) || Right([]string{"a", ""}, 2) {
		t.Error("Right of an empty name")
	}
}

// TestWriteRead: fields are written, and read again, each one's part by the function that is handed on.
func TestWriteRead(t *testing.T) {
	var w pack.Writer
	Write(&w, []string{"a", "bc"}, []int{5, -1}, (*pack.Writer).Int)
	if got := string(w.Out()); got != "\x02\x01a\x0a\x02bc\x01" {
		t.Errorf("Write: %x", got)
	}
	for b, want := range map[string]struct {
		names string
		parts []int
		code  api.Errno
		at    int
	}{
		"\x00\x09":                    {"", nil, api.OK, 1},
		"\x02\x01a\x0a\x02bc\x01\x09": {"a bc", []int{5, -1}, api.OK, 8},
		"\x09":                        {"", nil, api.ErrLong, 1},
		"\x80":                        {"", nil, api.ErrForm, 0},
		"\x02\x01b\x0a\x01a\x01":      {"", nil, api.ErrForm, 6},
		"\x02\x01b\x0a\x01b\x01":      {"", nil, api.ErrForm, 6},
		"\x01\x01B\x0a":               {"", nil, api.ErrForm, 3},
		"\x02\x01b\x80\x00\x01a\x01":  {"", nil, api.ErrForm, 3},
		"\x01\x01b":                   {"", nil, api.ErrForm, 3},
	} {
		r := pack.NewReader([]byte(b))
		names, parts := Read(r, r.Int)
		if fault.Code(r.Err()) != want.code || r.At() != want.at {
			t.Errorf("Read of %x: %v, at %d", b, r.Err(), r.At())
		}
		if want.code == api.OK && (strings.Join(names, " ") != want.names || !slices.Equal(parts, want.parts)) {
			t.Errorf("Read of %x: %q %v", b, names, parts)
		}
	}
}

// TestFind: the first one that is like this.
func TestFind(t *testing.T) {
	l := []string{"b", "a", "b", ""}
	for name, want := range map[string]int{"a": 1, "b": 0, "": 3, "c": -1, "A": -1} {
		if Find(l, name) != want || Find(nil, name) != -1 {
			t.Errorf("Find of %q: %d", name, Find(l, name))
		}
	}
}

// TestPart: the part of the first one, where there are no fewer parts than names; it is the part itself.
func TestPart(t *testing.T) {
	for _, c := range []struct {
		names, parts, name string
		want               int
	}{
		{"b a b", "123", "b", 0}, {"b a b", "123", "a", 1}, {"b a b", "123", "c", -1}, {"b a b", "123", "", -1},
		{"b a", "123", "a", 1}, {"b a", "1", "b", -1}, {"b a", "1", "a", -1}, {"b a", "", "a", -1}, {"", "1", "a", -1}, {"", "", "a", -1},
	} {
		parts := []byte(c.parts)
		got := Part(strings.Fields(c.names), parts, c.name)
		if c.want < 0 && got != nil || c.want >= 0 && got != &parts[c.want] {
			t.Errorf("Part(%q, %s, %q): not %d", c.names, c.parts, c.name, c.want)
		}
	}
}

// TestWith: in the place of the first one of that name, or ahead of the first one behind it; parts without names stay behind.
func TestWith(t *testing.T) {
	for _, c := range []struct {
		names, name string
		parts       string
		with        string
		without     string
	}{
		{"b d", "a", "12", "abd x12", "bd 12"},
		{"b d", "b", "12", "bd x2", "d 2"},
		{"b d", "c", "12", "bcd 1x2", "bd 12"},
		{"b d", "d", "12", "bd 1x", "b 1"},
		{"b d", "e", "12", "bde 12x", "bd 12"},
		{"", "a", "", "a x", " "},
		{"d b d", "d", "123", "dbd x23", "bd 23"},
		{"d b", "c", "12", "cdb x12", "db 12"},
		{"b d", "e", "123", "bde 12x3", "bd 123"},
		{"b d", "d", "123", "bd 1x3", "b 13"},
	} {
		join := func(names []string, parts []byte) string { return strings.Join(names, "") + " " + string(parts) }
		if got := join(With(strings.Fields(c.names), []byte(c.parts), c.name, 'x')); got != c.with {
			t.Errorf("With(%q, %s, %s): %s", c.names, c.parts, c.name, got)
		}
		if got := join(Without(strings.Fields(c.names), []byte(c.parts), c.name)); got != c.without {
			t.Errorf("Without(%q, %s, %s): %s", c.names, c.parts, c.name, got)
		}
	}
}
