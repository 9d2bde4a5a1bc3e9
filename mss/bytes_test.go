package mss_test

import (
	"bytes"
	"encoding/binary"
	"math"
	"slices"
	"testing"

	"syngraph/api"
	"syngraph/mss"
	"syngraph/sha"
)

// bytesOf reckons a signature's bytes by layer 3's words: two numbers of eight bytes, and twice a count of four bytes with hashes behind it.
func bytesOf(s mss.Signature) []byte {
	b := binary.BigEndian.AppendUint64(nil, uint64(s.Kind))
	b = binary.BigEndian.AppendUint64(b, uint64(s.Index))
	for _, l := range [][]sha.Hash{s.Parts, s.Path} {
		b = binary.BigEndian.AppendUint32(b, uint32(len(l)))
		for _, h := range l {
			b = append(b, h[:]...)
		}
	}
	return b
}

// hashesFrom tells n hashes, each another one.
func hashesFrom(first, n int) []sha.Hash {
	var l []sha.Hash
	for i := range n {
		l = append(l, hashAt(first+i))
	}
	return l
}

// madeOf tells a signature with these fields that nobody signed.
func madeOf(kind, index, parts, path int) mss.Signature {
	return mss.Signature{Kind: kind, Index: index, Parts: hashesFrom(10, parts), Path: hashesFrom(1000, path)}
}

// mayBe tells signatures that may be one: at the bounds of each field, and between.
func mayBe() []mss.Signature {
	var l []mss.Signature
	for _, kind := range []int{1, 2} {
		for _, index := range []int{0, 1, 127, 254, 255} {
			for _, parts := range []int{0, 1, 67, 511, 512} {
				for _, path := range []int{0, 1, 7, 8} {
					l = append(l, madeOf(kind, index, parts, path))
				}
			}
		}
	}
	return l
}

// expectSame tells the test where two signatures differ in a field.
func expectSame(t *testing.T, got, want mss.Signature) {
	t.Helper()
	if got.Kind != want.Kind || got.Index != want.Index || !slices.Equal(got.Parts, want.Parts) || !slices.Equal(got.Path, want.Path) {
		t.Errorf("kind %d, index %d, %d parts, %d in the path; not %d, %d, %d, %d, or other hashes",
			got.Kind, got.Index, len(got.Parts), len(got.Path), want.Kind, want.Index, len(want.Parts), len(want.Path))
	}
}

// expectNone tells the test where bytes are read that are no signature's.
func expectNone(t *testing.T, b []byte, what string) {
	t.Helper()
	s, e := mss.Parse(b)
	if e != api.ErrForm || s.Kind != 0 || s.Index != 0 || len(s.Parts) != 0 || len(s.Path) != 0 {
		t.Errorf("Parse of %s: error %d, kind %d, index %d, %d parts, %d in the path", what, e, s.Kind, s.Index, len(s.Parts), len(s.Path))
	}
}

// P6.4: the bytes of a small signature, written out.
func TestBytesWrittenOut(t *testing.T) {
	s := mss.Signature{Kind: 2, Index: 258, Path: []sha.Hash{{0: 9, 31: 7}}}
	want := slices.Concat([]byte{0, 0, 0, 0, 0, 0, 0, 2, 0, 0, 0, 0, 0, 0, 1, 2, 0, 0, 0, 0, 0, 0, 0, 1, 9}, make([]byte, 30), []byte{7})
	if got := s.Bytes(); !bytes.Equal(got, want) {
		t.Errorf("Bytes: %v, not %v", got, want)
	}
}

// P6.4: the bytes by layer 3's words, of what may be a signature and of what may not; Parse reads back what may be one.
func TestBytesAndParse(t *testing.T) {
	for _, s := range mayBe() {
		b := s.Bytes()
		if !bytes.Equal(b, bytesOf(s)) {
			t.Fatalf("Bytes of kind %d, index %d, %d parts, %d in the path", s.Kind, s.Index, len(s.Parts), len(s.Path))
		}
		got, e := mss.Parse(b)
		if e != api.OK || !got.Equal(s) {
			t.Errorf("Parse: error %d", e)
		}
		expectSame(t, got, s)
	}
	for _, s := range []mss.Signature{{}, {Kind: -1, Index: -258}, {Kind: math.MinInt, Index: math.MaxInt}, madeOf(3, 256, 513, 9), {Parts: []sha.Hash{}, Path: []sha.Hash{}}} {
		if !bytes.Equal(s.Bytes(), bytesOf(s)) {
			t.Errorf("Bytes of kind %d, index %d", s.Kind, s.Index)
		}
	}
}

// P6.4 and P6.3: what keys sign is read back, and still right.
func TestParseOfSigned(t *testing.T) {
	for _, c := range someSigned(t) {
		b := c.s.Bytes()
		if !bytes.Equal(b, bytesOf(c.s)) {
			t.Errorf("Bytes of kind %d, index %d", c.s.Kind, c.s.Index)
		}
		got, e := mss.Parse(b)
		if e != api.OK {
			t.Fatalf("Parse: error %d", e)
		}
		expectSame(t, got, c.s)
		c.s = got
		c.expect(t, api.OK, "read back")
	}
}

// P6.4: ErrForm, and nothing beside it, at each field that is just beyond its bounds, and far beyond.
func TestParseBeyondBounds(t *testing.T) {
	for _, kind := range noKinds() {
		expectNone(t, bytesOf(madeOf(kind, 1, 67, 2)), "another kind")
		expectNone(t, bytesOf(madeOf(kind, 0, 0, 0)), "another kind alone")
	}
	for _, index := range []int{-1, 256, -2, 257, -256, 1 << 16, 1 << 32, math.MinInt, math.MaxInt} {
		expectNone(t, bytesOf(madeOf(1, index, 67, 2)), "an index beyond")
		expectNone(t, bytesOf(madeOf(2, index, 0, 0)), "an index beyond alone")
	}
	for _, parts := range []int{513, 514, 1024} {
		expectNone(t, bytesOf(madeOf(1, 0, parts, 2)), "too many parts")
		expectNone(t, bytesOf(madeOf(2, 0, parts, 0)), "too many parts alone")
	}
	for _, path := range []int{9, 10, 512} {
		expectNone(t, bytesOf(madeOf(1, 0, 67, path)), "too long a path")
		expectNone(t, bytesOf(madeOf(2, 0, 0, path)), "too long a path alone")
	}
}

// P6.4, and P1 of DOC.md: bytes that are cut off at any place, and bytes more.
func TestParseCutOff(t *testing.T) {
	for _, s := range []mss.Signature{madeOf(1, 0, 0, 0), madeOf(2, 255, 1, 1), madeOf(1, 9, 67, 4), madeOf(2, 9, 512, 8)} {
		b := bytesOf(s)
		for n := range len(b) {
			expectNone(t, b[:n], "bytes that are cut off")
		}
		for _, more := range []int{1, 2, 4, 32, 100} {
			expectNone(t, append(slices.Clone(b), make([]byte, more)...), "noughts more")
			expectNone(t, append(slices.Clone(b), bytes.Repeat([]byte{1}, more)...), "bytes more")
		}
		expectNone(t, append([]byte{0}, b...), "a byte more ahead")
		expectNone(t, slices.Concat(b, b), "two signatures")
	}
	expectNone(t, nil, "no bytes")
	expectNone(t, []byte{}, "empty bytes")
}

// P6.4, and P1 of DOC.md: counts that say more than there is, up to the greatest.
func TestParseCountsThatSayTooMuch(t *testing.T) {
	for _, count := range []uint32{1, 2, 67, 512, 513, 1 << 31, 1<<32 - 1} {
		ahead := bytesOf(madeOf(1, 0, 0, 0))[:16]
		parts := binary.BigEndian.AppendUint32(slices.Clone(ahead), count)
		expectNone(t, parts, "a count of parts alone")
		expectNone(t, append(parts, 0, 0, 0, 0), "a count of parts, and no path")
		path := binary.BigEndian.AppendUint32(append(slices.Clone(ahead), 0, 0, 0, 0), count)
		expectNone(t, path, "a count of a path alone")
		expectNone(t, append(path, make([]byte, 31)...), "a count of a path, and too few bytes")
	}
}

// expectEqual tells the test where Equal says otherwise, from either side.
func expectEqual(t *testing.T, a, b mss.Signature, want bool, what string) {
	t.Helper()
	if a.Equal(b) != want || b.Equal(a) != want {
		t.Errorf("Equal, %s: %t and %t, not %t", what, a.Equal(b), b.Equal(a), want)
	}
}

// P6.4: two that are one, and two that differ in one field alone.
func TestEqual(t *testing.T) {
	for _, s := range append(mayBe(), mss.Signature{}, madeOf(-5, math.MinInt, 600, 20)) {
		c := signed{s: s}
		expectEqual(t, s, s, true, "with itself")
		expectEqual(t, s, c.bent(func(o *mss.Signature) {}).s, true, "with the same in other memory")
		for what, change := range map[string]func(o *mss.Signature){
			"another kind":      func(o *mss.Signature) { o.Kind = 3 - o.Kind },
			"another index":     func(o *mss.Signature) { o.Index++ },
			"a part more":       func(o *mss.Signature) { o.Parts = append(o.Parts, sha.Hash{}) },
			"a part ahead":      func(o *mss.Signature) { o.Parts = append([]sha.Hash{{1}}, o.Parts...) },
			"a hash more":       func(o *mss.Signature) { o.Path = append(o.Path, sha.Hash{}) },
			"a hash more in it": func(o *mss.Signature) { o.Path = append([]sha.Hash{{1}}, o.Path...) },
		} {
			expectEqual(t, s, c.bent(change).s, false, what)
		}
		if n := len(s.Parts); n > 0 {
			expectEqual(t, s, c.bent(func(o *mss.Signature) { o.Parts[n-1][31] ^= 1 }).s, false, "a turned part")
			expectEqual(t, s, c.bent(func(o *mss.Signature) { o.Parts[0][0] ^= 128 }).s, false, "a turned first part")
		}
		if n := len(s.Path); n > 0 {
			expectEqual(t, s, c.bent(func(o *mss.Signature) { o.Path[n-1][31] ^= 1 }).s, false, "a turned path")
			expectEqual(t, s, c.bent(func(o *mss.Signature) { o.Path[0][0] ^= 128 }).s, false, "a turned first hash of a path")
		}
	}
}

// P6.4: nil and empty lists are one; a hash in the parts is not one in the path.
func TestEqualOfEmpty(t *testing.T) {
	none := mss.Signature{Kind: 1, Index: 2}
	empty := mss.Signature{Kind: 1, Index: 2, Parts: []sha.Hash{}, Path: []sha.Hash{}}
	expectEqual(t, none, empty, true, "nil and empty")
	if !bytes.Equal(none.Bytes(), empty.Bytes()) {
		t.Errorf("the bytes of nil and empty lists differ")
	}
	expectEqual(t, mss.Signature{Parts: hashesFrom(1, 1)}, mss.Signature{Path: hashesFrom(1, 1)}, false, "parts and path")
}
