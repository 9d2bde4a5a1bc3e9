package sha

import (
	"bytes"

	"syngraph/api"
)

const digits = "0123456789abcdef"

// Show tells the text of h: two digits for each byte, the higher half first.
func (h Hash) Show() string {
	text := make([]byte, 0, 2*len(h))
	for _, b := range h {
		text = append(text, digits[b>>4], digits[b&15])
	}
	return string(text)
}

// Parse tells the hash whose text s is, or ErrForm if there is none.
func Parse(s string) (Hash, api.Errno) {
	var h Hash
	if len(s) != 2*len(h) {
		return Hash{}, api.ErrForm
	}
	for i := range h {
		high, highOK := digitOf(s[2*i])
		low, lowOK := digitOf(s[2*i+1])
		if !highOK || !lowOK {
			return Hash{}, api.ErrForm
		}
		h[i] = high<<4 | low
	}
	return h, api.OK
}

// digitOf tells the number of a digit, and whether c is one. Capital letters are none: each hash has one text.
func digitOf(c byte) (byte, bool) {
	switch {
	case '0' <= c && c <= '9':
		return c - '0', true
	case 'a' <= c && c <= 'f':
		return c - 'a' + 10, true
	}
	return 0, false
}

// Cmp tells -1, 0 or 1, as h is ahead of o, the same, or behind, in the order of bytes.
func (h Hash) Cmp(o Hash) int {
	return bytes.Compare(h[:], o[:])
}
