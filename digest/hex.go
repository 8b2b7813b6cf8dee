package digest

import (
	"strings"

	"dioptre/api"
)

const digits = "0123456789abcdef"

// Hex is bytes as digits.
func Hex(b []byte) string {
	out := make([]byte, 0, 2*len(b))
	for _, c := range b {
		out = append(out, digits[c>>4], digits[c&15])
	}
	return string(out)
}

// Parse is the bytes of digits.
func Parse(s string) ([]byte, error) {
	if len(s)%2 != 0 {
		return nil, api.ErrForm
	}
	b := make([]byte, len(s)/2)
	for i := range b {
		high, low := strings.IndexByte(digits, s[2*i]), strings.IndexByte(digits, s[2*i+1])
		if high < 0 || low < 0 {
			return nil, api.ErrForm
		}
		b[i] = byte(high<<4 | low)
	}
	return b, nil
}
