package wal

import (
	"bytes"

	"syngraph/wire"
)

// What a head begins with, and how many bytes each number in it takes.
const (
	headMark   = 1
	numberSize = 8
)

// namesIn tells how many home sectors a head of so many bytes has room for, behind the mark and the count.
func namesIn(size int) int {
	return size/numberSize - 2
}

// headOf tells the head that names these home sectors, in so many bytes.
func headOf(at []int, size int) []byte {
	var o wire.Out
	o.Int(headMark).Int(len(at))
	for _, i := range at {
		o.Int(i)
	}
	b := make([]byte, size)
	copy(b, o.All())
	return b
}

// readHead tells the home sectors that a head names, of which there are home, and the head may name most; false, if it isn't right.
func readHead(b []byte, home, most int) ([]int, bool) {
	if bytes.Equal(b, make([]byte, len(b))) {
		return nil, true
	}
	i := wire.NewIn(b)
	i.Count(headMark, headMark)
	at := make([]int, i.Count(0, most))
	for k := range at {
		at[k] = i.Count(0, home-1)
	}
	// A head has one way to be written, so that this looks at what is behind the names, too.
	if i.Bad() || !bytes.Equal(b, headOf(at, len(b))) {
		return nil, false
	}
	return at, true
}
