// Package sample is documents, schemas and paths of which the tests of several layers are made. It calls no layer: so each may be tested with it.
package sample

import "dioptre/api"

// Num is an Int.
func Num(n int) api.Value { return api.Value{Kind: api.Int, N: n} }

// Truth is a Bool.
func Truth(n int) api.Value { return api.Value{Kind: api.Bool, N: n} }

// Text is a Text.
func Text(s string) api.Value { return api.Value{Kind: api.Text, S: s} }

// Word is an Enum.
func Word(s string) api.Value { return api.Value{Kind: api.Enum, S: s} }

// Record is a record of just these names and parts, right or not.
func Record(names []string, parts ...api.Value) api.Value {
	return api.Value{Kind: api.Record, Names: names, Parts: parts}
}

// List is a list of just these numbers and parts, right or not.
func List(ids []uint64, parts ...api.Value) api.Value {
	return api.Value{Kind: api.List, Ids: ids, Parts: parts}
}

// Nums is a list of these elements, each one's part being its number, taken ten times.
func Nums(ids ...uint64) api.Value {
	v := List(ids)
	for _, id := range ids {
		v.Parts = append(v.Parts, Num(int(id)*10))
	}
	return v
}

// InLists is a value within so many lists.
func InLists(v api.Value, n int) api.Value {
	for range n {
		v = List([]uint64{1}, v)
	}
	return v
}

// Of is a schema without parts.
func Of(kind int, words ...string) api.Schema { return api.Schema{Kind: kind, Words: words} }

// ListOf is a list's schema.
func ListOf(part api.Schema) api.Schema {
	return api.Schema{Kind: api.List, Parts: []api.Schema{part}}
}

// RecordOf is a record's schema.
func RecordOf(words []string, parts ...api.Schema) api.Schema {
	return api.Schema{Kind: api.Record, Words: words, Parts: parts}
}

// Steps is a path of names, of numbers, and of whole steps.
func Steps(l ...any) []api.Step {
	var p []api.Step
	for _, x := range l {
		switch x := x.(type) {
		case string:
			p = append(p, api.Step{Name: x})
		case int:
			p = append(p, api.Step{Id: uint64(x)})
		case uint64:
			p = append(p, api.Step{Id: x})
		case api.Step:
			p = append(p, x)
		}
	}
	return p
}
