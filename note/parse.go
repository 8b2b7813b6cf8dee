package note

import (
	"strconv"
	"strings"

	"dioptre/api"
)

// Parse is the value of a text. What is read is a guess, which holds for each text that Print tells; whether this is one is asked behind it.
func Parse(s string) (api.Value, error) {
	r := reader{left: s}
	v := r.value(1)
	if told, e := Print(v); e != nil || told != s {
		return api.Value{}, api.ErrForm
	}
	return v, nil
}

// reader reads a text from the left. It refuses nothing, but reads no more parts, and no deeper, than a right value has.
type reader struct {
	left string
}

// take reads these bytes, if they stand there.
func (r *reader) take(s string) bool {
	rest, ok := strings.CutPrefix(r.left, s)
	r.left = rest
	return ok
}

// until reads what stands ahead of the first of these marks; all, if there is none.
func (r *reader) until(marks string) string {
	i := strings.IndexAny(r.left, marks)
	if i < 0 {
		i = len(r.left)
	}
	s := r.left[:i]
	r.left = r.left[i:]
	return s
}

// value reads a value that lies so deep.
func (r *reader) value(depth int) (v api.Value) {
	if depth > api.MaxDeep {
		return v
	}
	switch {
	case r.take("{"):
		v.Kind = api.Record
		r.parts("=", "}", func(name string) {
			v.Names, v.Parts = append(v.Names, name), append(v.Parts, r.value(depth+1))
		})
	case r.take("["):
		v.Kind = api.List
		r.parts(":", "]", func(number string) {
			id, _ := strconv.ParseUint(number, 10, 64)
			v.Ids, v.Parts = append(v.Ids, id), append(v.Parts, r.value(depth+1))
		})
	case r.take(`"`):
		v.Kind, v.S = api.Text, unquoted(r.until(`"`))
		r.take(`"`)
	case r.take("#"):
		v.Kind, v.S = api.Enum, r.until(",}]")
	default:
		v.Kind, v.N = number(r.until(",}]"))
	}
	return v
}

// parts reads parts up to the end, each one by the function that is handed on what stands ahead of the mark.
func (r *reader) parts(mark, end string, part func(ahead string)) {
	if r.take(end) {
		return
	}
	for range api.MaxItems {
		ahead := r.until(mark)
		r.take(mark)
		part(ahead)
		if !r.take(",") {
			break
		}
	}
	r.take(end)
}

// number is the kind, and the number, of a value that is told without a mark.
func number(s string) (kind, n int) {
	switch s {
	case "true":
		return api.Bool, 1
	case "false":
		return api.Bool, 0
	}
	n, _ = strconv.Atoi(s)
	return api.Int, n
}

// unquoted is the bytes of a text that stood between quotes.
func unquoted(s string) string {
	var b []byte
	for i := 0; i < len(s); i++ {
		c := s[i]
		if c == '\\' {
			digits := s[i+1 : min(i+3, len(s))]
			n, _ := strconv.ParseUint(digits, 16, 8)
			c = byte(n)
			i += 2
		}
		b = append(b, c)
	}
	return string(b)
}
