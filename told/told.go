// Package told is for tests alone: documents and schemas, told as texts.
package told

import (
	"strings"

	"dioptre/api"
	"dioptre/note"
)

// Doc is the document of a text, of which the test is sure.
func Doc(s string) api.Value {
	v, e := note.Parse(s)
	if e != nil {
		panic("no value's text: " + s)
	}
	return v
}

// Text is a document's text, or that it isn't right.
func Text(v api.Value) string {
	s, e := note.Print(v)
	if e != nil {
		return "not right"
	}
	return s
}

// Docs are the documents of texts that stand apart, none of them with a space within.
func Docs(s string) []api.Value {
	var l []api.Value
	for _, x := range strings.Fields(s) {
		l = append(l, Doc(x))
	}
	return l
}

// Texts are documents' texts, with a space between two.
func Texts(l []api.Value) string { return apart(l, Text) }

// apart are things' texts, with a space between two.
func apart[X any](l []X, text func(x X) string) string {
	var words []string
	for _, x := range l {
		words = append(words, text(x))
	}
	return strings.Join(words, " ")
}

// Schema is a schema's text: its kind, the words of an enum, or the parts in the form of a document's text.
func Schema(s api.Schema) string {
	var words []string
	for i, x := range s.Parts {
		if i < len(s.Words) {
			words = append(words, s.Words[i]+"="+Schema(x))
		} else {
			words = append(words, Schema(x))
		}
	}
	inside := strings.Join(words, ",")
	switch s.Kind {
	case api.Bool:
		return "bool"
	case api.Int:
		return "int"
	case api.Text:
		return "text"
	case api.Enum:
		return "#" + strings.Join(s.Words, "#")
	case api.Record:
		return "{" + inside + "}"
	case api.List:
		return "[" + inside + "]"
	}
	return "not right"
}

// Schemas are schemas' texts, with a space between two.
func Schemas(l []api.Schema) string { return apart(l, Schema) }
