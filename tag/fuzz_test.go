package tag_test

import (
	"testing"

	"syngraph/sha"
	"syngraph/tag"
)

// P1 of DOC.md, and P2.1: no call panics, and each sums what the document says, whatever it is given.
func FuzzAll(f *testing.F) {
	f.Add(0, 0, []byte(nil), []byte(nil))
	f.Add(-1, 1<<16, []byte("ab"), []byte("c"))
	f.Add(256, -1<<32, pattern(100, 1), pattern(40, 2))
	f.Fuzz(func(t *testing.T, x, y int, b, c []byte) {
		h := sha.Sum(b)
		expect(t, "Leaf", tag.Leaf(b), plain(0, b))
		expect(t, "Node", tag.Node(h, sha.Sum(c)), plain(1, h[:], sumOf(c)))
		expect(t, "Chain", tag.Chain(h, x, y), plain(2, h[:], digits(x, 2), digits(y, 2)))
		expect(t, "Secret", tag.Secret(h, x, y), plain(3, h[:], digits(x, 4), digits(y, 4)))
		expect(t, "Public", tag.Public([]sha.Hash{h, sha.Sum(c)}), plain(4, h[:], sumOf(c)))
		expect(t, "Message", tag.Message(b), plain(5, b))
		expect(t, "File", tag.File(b), plain(6, b))
		expect(t, "Record", tag.Record(h, c), plain(7, h[:], c))
		expect(t, "Input", sha.Sum(tag.Input(x, b, c)), plain(digits(x, 1)[0], b, c))
	})
}

// sumOf tells layer 1's sum as a list of bytes.
func sumOf(b []byte) []byte {
	h := sha.Sum(b)
	return h[:]
}

// digits tells x modulo 256^n in n bytes, the highest first, by dividing alone.
func digits(x, n int) []byte {
	b := make([]byte, n)
	for i := n - 1; i >= 0; i-- {
		low := x % 256
		x /= 256
		if low < 0 {
			low += 256
			x--
		}
		b[i] = byte(low)
	}
	return b
}
