package note

import (
	"strconv"
	"strings"

	"dioptre/api"
)

// text is a right value's text.
func text(v api.Value) string {
	mark := ""
	switch v.Kind {
	case api.Record:
		return "{" + joined(v.Parts, func(i int) string { return v.Names[i] + "=" }) + "}"
	case api.List:
		return "[" + joined(v.Parts, func(i int) string { return strconv.FormatUint(v.Ids[i], 10) + ":" }) + "]"
	case api.Enum:
		mark = "#"
		// Behind its mark it goes the road of all kinds that have no parts.
		fallthrough
	default:
		return mark + plain(v)
	}
}

// joined is the parts' texts, each with what stands ahead of it.
func joined(parts []api.Value, ahead func(i int) string) string {
	var l []string
	for i, x := range parts {
		l = append(l, ahead(i)+text(x))
	}
	return strings.Join(l, ",")
}

// plain is the text of a kind that has no parts; of an enum its word.
func plain(v api.Value) string {
	switch v.Kind {
	case api.Bool:
		return strconv.FormatBool(v.N == 1)
	case api.Int:
		return strconv.Itoa(v.N)
	case api.Text:
		return quoted(v.S)
	}
	return v.S
}

// quoted is a text between quotes. Each byte that isn't told as itself is told by its digits.
func quoted(s string) string {
	const digits = "0123456789abcdef"
	b := []byte{'"'}
	for i := range len(s) {
		c := s[i]
		if c < 0x20 || c >= 0x7f || c == '"' || c == '\\' {
			b = append(b, '\\', digits[c>>4], digits[c&0xf])
		} else {
			b = append(b, c)
		}
	}
	return string(append(b, '"'))
}
