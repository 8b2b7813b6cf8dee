package note

import (
	"fmt"
	"math/big"
	"math/rand/v2"
	"regexp"
	"slices"
	"strings"
	"testing"

	"dioptre/api"
	"dioptre/fault"
	"dioptre/sample"
	"dioptre/value"
)

// chance makes numbers, always the same ones.
func chance() *rand.Rand { return rand.New(rand.NewPCG(11, 2026)) }

// What the tests are made of.
var (
	num, truth, quote, word = sample.Num, sample.Truth, sample.Text, sample.Word
	record, list, inLists   = sample.Record, sample.List, sample.InLists
)

// wantText is a right value's text, by the chapter's words.
func wantText(v api.Value) string {
	s := ""
	switch v.Kind {
	case api.Bool:
		return []string{"false", "true"}[v.N]
	case api.Int:
		return fmt.Sprint(v.N)
	case api.Text:
		for _, c := range []byte(v.S) {
			if strings.IndexByte(" !#$%&'()*+,-./0123456789:;<=>?@ABCDEFGHIJKLMNOPQRSTUVWXYZ[]^_`abcdefghijklmnopqrstuvwxyz{|}~", c) >= 0 {
				s += string(rune(c))
			} else {
				s += fmt.Sprintf("\\%02x", c)
			}
		}
		return `"` + s + `"`
	case api.Enum:
		return "#" + v.S
	case api.Record:
		for i, name := range v.Names {
			s += "," + name + "=" + wantText(v.Parts[i])
		}
		return "{" + strings.TrimPrefix(s, ",") + "}"
	}
	for i, id := range v.Ids {
		s += fmt.Sprintf(",%d:", id) + wantText(v.Parts[i])
	}
	return "[" + strings.TrimPrefix(s, ",") + "]"
}

var (
	wordForm   = regexp.MustCompile(`\A[a-z0-9_]{1,12}`)
	numberForm = regexp.MustCompile(`\A(0|-?[1-9][0-9]*)`)
	textForm   = regexp.MustCompile(`\A"(?:[ !#-\[\]-~]|\\[01][0-9a-f]|\\7f|\\[89a-f][0-9a-f]|\\22|\\5c)*"`)
	codeForm   = regexp.MustCompile(`\\..`)
)

// model reads by the chapter's words, and panics where no right value's text goes on.
type model struct{ left string }

func (m *model) ask(ok bool) {
	if !ok {
		panic("no text")
	}
}

// next is what is of that form.
func (m *model) next(form *regexp.Regexp) string {
	s := form.FindString(m.left)
	m.ask(s != "")
	m.left = m.left[len(s):]
	return s
}

// has tells whether these bytes come, and takes them.
func (m *model) has(s string) bool {
	ok := strings.HasPrefix(m.left, s)
	if ok {
		m.left = m.left[len(s):]
	}
	return ok
}

// number is a number of that form between these.
func (m *model) number(least, most string) *big.Int {
	n, _ := new(big.Int).SetString(m.next(numberForm), 10)
	low, _ := new(big.Int).SetString(least, 10)
	high, _ := new(big.Int).SetString(most, 10)
	m.ask(n.Cmp(low) >= 0 && n.Cmp(high) <= 0)
	return n
}

func (m *model) value(depth int) (v api.Value) {
	m.ask(depth < 6 && m.left != "")
	switch {
	case m.has("false"):
		return truth(0)
	case m.has("true"):
		return truth(1)
	case m.has("#"):
		return word(m.next(wordForm))
	case m.left[0] == '"':
		s := m.next(textForm)
		s = codeForm.ReplaceAllStringFunc(s[1:len(s)-1], func(code string) string {
			n, _ := new(big.Int).SetString(code[1:], 16)
			return string([]byte{byte(n.Int64())})
		})
		m.ask(len(s) < 65)
		return quote(s)
	case m.has("{"):
		m.parts(&v, "}", 9, func() {
			name := m.next(wordForm)
			m.ask(m.has("=") && (len(v.Names) == 0 || v.Names[len(v.Names)-1] < name))
			v.Kind, v.Names, v.Parts = api.Record, append(v.Names, name), append(v.Parts, m.value(depth+1))
		})
		v.Kind = api.Record
		return v
	case m.has("["):
		m.parts(&v, "]", 13, func() {
			id := m.number("1", "18446744073709551615").Uint64()
			m.ask(m.has(":") && !slices.Contains(v.Ids, id))
			v.Ids, v.Parts = append(v.Ids, id), append(v.Parts, m.value(depth+1))
		})
		v.Kind = api.List
		return v
	}
	return num(int(m.number("-9223372036854775808", "9223372036854775807").Int64()))
}

// parts reads fewer parts than so many, up to the end.
func (m *model) parts(v *api.Value, end string, fewer int, part func()) {
	for !m.has(end) {
		m.ask(len(v.Parts) == 0 || m.has(","))
		part()
		m.ask(len(v.Parts) < fewer)
	}
}

// wantParse is the value whose text it is, and whether there is one.
func wantParse(s string) (v api.Value, ok bool) {
	defer func() {
		if recover() != nil {
			v, ok = api.Value{}, false
		}
	}()
	m := &model{left: s}
	v = m.value(1)
	m.ask(m.left == "")
	return v, true
}

// checkError: the error has that number, and no place.
func checkError(t *testing.T, name string, e error, code api.Errno) {
	t.Helper()
	if fault.Code(e) != code || len(fault.Places(e)) > 0 || (e == nil) != (code == api.OK) {
		t.Errorf("%s: %v, not %d", name, e, code)
	}
}

// checkParse: Parse says what the model says; what is parsed has just this text.
func checkParse(t *testing.T, s string) (right bool) {
	t.Helper()
	want, ok := wantParse(s)
	v, e := Parse(s)
	if !value.Same(v, want) || (e == nil) != ok {
		t.Errorf("Parse of %q: %v %v, not %v %v", s, v, e, want, ok)
	}
	if !ok {
		checkError(t, fmt.Sprintf("Parse of %q", s), e, api.ErrForm)
		return false
	}
	if again, e := Print(v); e != nil || again != s || !value.Right(v) {
		t.Errorf("Parse of %q: %v, printed %q %v", s, v, again, e)
	}
	return true
}

// someName is a name; many are alike.
func someName(r *rand.Rand) string {
	return []string{"a", "b", "aa", "0", "_", "true", "12", "abcdefghij_9"}[r.IntN(8)]
}

// someBytes are at most so many bytes; many are told by their digits.
func someBytes(r *rand.Rand, most int) string {
	b := make([]byte, r.IntN(most+1))
	for i := range b {
		b[i] = byte(r.Uint32())
		if r.IntN(2) == 0 {
			b[i] = `ab0"\,]}[{=:# ~`[r.IntN(15)]
		}
	}
	return string(b)
}

// someValue is a right value, at most so deep.
func someValue(r *rand.Rand, deep int) api.Value {
	kinds := 6
	if deep == 1 {
		kinds = 4
	}
	switch 1 + r.IntN(kinds) {
	case api.Bool:
		return truth(r.IntN(2))
	case api.Int:
		return num(int(r.Uint64()) >> r.IntN(64))
	case api.Text:
		return quote(someBytes(r, []int{4, 4, 4, 64}[r.IntN(4)]))
	case api.Enum:
		return word(someName(r))
	case api.Record:
		v := record(nil)
		for range r.IntN(5) {
			v = value.With(v, someName(r), someValue(r, deep-1))
		}
		return v
	}
	v := list(nil)
	for range r.IntN(5) {
		if id := r.Uint64() >> r.IntN(64); id > 0 && !slices.Contains(v.Ids, id) {
			v.Ids, v.Parts = append(v.Ids, id), append(v.Parts, someValue(r, deep-1))
		}
	}
	return v
}
