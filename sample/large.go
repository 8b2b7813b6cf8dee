package sample

import (
	"slices"
	"strings"

	"dioptre/api"
)

// Large is a list of lists of texts of so many bytes, from 1000 to 9000.
func Large(n int) api.Value {
	v := List(nil)
	left := n - 2
	for left > 0 {
		// What is left behind a list is enough for another one, or nothing.
		size := left
		if left > 1200 {
			size = 807
		} else if left > 807 {
			size = 600
		}
		v.Ids, v.Parts = append(v.Ids, uint64(len(v.Ids)+1)), append(v.Parts, texts(size-3))
		left -= size
	}
	return v
}

// texts are a list of texts that has so many bytes behind its first two, from 4 to 804.
func texts(n int) api.Value {
	v := List(nil)
	for n > 0 {
		size := n
		if n > 70 {
			size = 67
		} else if n > 67 {
			size = 33
		}
		v.Ids, v.Parts = append(v.Ids, uint64(len(v.Ids)+1)), append(v.Parts, Text(strings.Repeat("x", size-3)))
		n -= size
	}
	return v
}

// LargeSchema is a record's right schema of so many bytes, from 4089 to 4100: four records of 868 bytes, and one whose last field's last word is as long as is left.
func LargeSchema(n int) api.Schema {
	names := strings.Split("abcdefgh", "")
	var words []string
	for _, name := range names {
		words = append(words, "abcdefghijk"+name)
	}
	full := Of(api.Enum, words...)
	var parts []api.Schema
	for range 4 {
		parts = append(parts, RecordOf(names, slices.Repeat([]api.Schema{full}, 8)...))
	}
	last := Of(api.Enum, append(words[:5:5], strings.Repeat("z", n-4088))...)
	parts = append(parts, RecordOf(names[:6], append(slices.Repeat([]api.Schema{full}, 5), last)...))
	return RecordOf(names[:5], parts...)
}
