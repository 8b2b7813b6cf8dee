package sample

import (
	"strings"

	"dioptre/api"
)

// Large is a list of lists of texts of so many bytes, from 1000 to 9000.
func Large(n int) api.Value {
	v := List(nil)
	left := n - 2
	for left > 0 {
		// What is left behind a list is enough for another one, or nothing.
		size := left
		if left > 1200 {
			size = 807
		} else if left > 807 {
			size = 600
		}
		v.Ids, v.Parts = append(v.Ids, uint64(len(v.Ids)+1)), append(v.Parts, texts(size-3))
		left -= size
	}
	return v
}

// texts are a list of texts that has so many bytes behind its first two, from 4 to 804.
func texts(n int) api.Value {
	v := List(nil)
	for n > 0 {
		size := n
		if n > 70 {
			size = 67
		} else if n > 67 {
			size = 33
		}
		v.Ids, v.Parts = append(v.Ids, uint64(len(v.Ids)+1)), append(v.Parts, Text(strings.Repeat("x", size-3)))
		n -= size
	}
	return v
}
