package compact_test

import (
	"bytes"
	"encoding/binary"
	"math"
	"math/bits"
	"slices"
	"testing"

	"syngraph/api"
	"syngraph/compact"
	"syngraph/sha"
)

// bytesOf reckons bytes by layer 3's words: a number of eight bytes, a count of four, and the hashes. They need be no range's.
func bytesOf(size int, peaks []sha.Hash) []byte {
	b := binary.BigEndian.AppendUint64(nil, uint64(size))
	b = binary.BigEndian.AppendUint32(b, uint32(len(peaks)))
	for _, h := range peaks {
		b = append(b, h[:]...)
	}
	return b
}

// mustParse reads bytes that are a range's.
func mustParse(t *testing.T, b []byte) *compact.Range {
	t.Helper()
	r, e := compact.Parse(b)
	if e != api.OK || r == nil {
		t.Fatalf("Parse: error %d", e)
	}
	return r
}

// expectNone tells the test where bytes are read that are no range's, or where something stands beside the error.
func expectNone(t *testing.T, what string, b []byte) {
	t.Helper()
	if r, e := compact.Parse(b); e != api.ErrForm || r != nil {
		t.Errorf("Parse of %s: error %d, a range %t", what, e, r != nil)
	}
}

// someSizes tells sizes of ranges: small ones, those around the powers of two, and those at MaxLeaves.
func someSizes() []int {
	var l []int
	for n := range most {
		l = append(l, n)
	}
	for bit := 7; bit < 20; bit++ {
		l = append(l, 1<<bit-1, 1<<bit, 1<<bit+1)
	}
	return append(l, api.MaxLeaves-2, api.MaxLeaves-1, api.MaxLeaves)
}

// noSizes tells numbers that are no size of a range.
func noSizes() []int {
	return []int{-1, -2, -256, math.MinInt, math.MinInt + 1, math.MinInt32, -api.MaxLeaves, -1 << 32, -1<<32 + 3,
		api.MaxLeaves + 1, api.MaxLeaves + 2, 2*api.MaxLeaves - 1, 2 * api.MaxLeaves, math.MaxInt32, 1 << 31, 1 << 32, 1<<32 + 1, 1 << 56, 1<<62 + 1, math.MaxInt - 1, math.MaxInt}
}

// P9.2: the bytes of small ranges, written out.
func TestBytesWrittenOut(t *testing.T) {
	h, o := sha.Hash{0: 9, 31: 7}, sha.Hash{0: 8, 31: 6}
	for _, c := range []struct {
		l    []sha.Hash
		want []byte
	}{
		{nil, make([]byte, 12)},
		{[]sha.Hash{h}, slices.Concat([]byte{0, 0, 0, 0, 0, 0, 0, 1, 0, 0, 0, 1, 9}, make([]byte, 30), []byte{7})},
		{[]sha.Hash{o, o, h}, slices.Concat([]byte{0, 0, 0, 0, 0, 0, 0, 3, 0, 0, 0, 2}, nodeBytes(o), []byte{9}, make([]byte, 30), []byte{7})},
	} {
		if got := rangeOf(t, c.l).Bytes(); !bytes.Equal(got, c.want) {
			t.Errorf("Bytes of %d leaves: %v, not %v", len(c.l), got, c.want)
		}
	}
}

// nodeBytes tells the bytes of the node of a hash and itself, by layer 2's words.
func nodeBytes(h sha.Hash) []byte {
	node := sha.Sum(slices.Concat([]byte{1}, h[:], h[:]))
	return node[:]
}

// P9.2: what Bytes tells is read back, the same, and goes on from there.
func TestReadBack(t *testing.T) {
	l := listOf(most + 9)
	for n := range most {
		r := rangeOf(t, l[:n])
		b := r.Bytes()
		if !bytes.Equal(b, bytesOf(n, peaksOf(l[:n]))) {
			t.Fatalf("Bytes of %d leaves", n)
		}
		back := mustParse(t, b)
		expectRange(t, "read back", back, l[:n])
		expectEqual(t, "read back", back, r, true)
		for i := range 9 {
			mustAppend(t, back, l[n+i])
			expectRange(t, "going on one by one", back, l[:n+i+1])
		}
		again := mustParse(t, b)
		mustAppend(t, again, l[n:n+9]...)
		expectRange(t, "going on at once", again, l[:n+9])
		expectRange(t, "what was written", r, l[:n])
	}
}

// P9.2: any number from 0 to MaxLeaves with as many hashes as it has peaks is a range, whatever the hashes are.
func TestParseOfAnyPeaks(t *testing.T) {
	for _, n := range someSizes() {
		count := len(treesOf(n))
		for _, peaks := range [][]sha.Hash{listOf(count), make([]sha.Hash, count), slices.Repeat([]sha.Hash{hashAt(3)}, count)} {
			b := bytesOf(n, peaks)
			r := mustParse(t, b)
			if r.Size() != n || !slices.Equal(r.Peaks(), peaks) || !bytes.Equal(r.Bytes(), b) {
				t.Errorf("Parse of %d leaves: %d, %d peaks, or other hashes", n, r.Size(), len(r.Peaks()))
			}
		}
	}
}

// P9.2: ErrForm, and no range beside it, at more or fewer hashes than the number has peaks.
func TestParseOfOtherCounts(t *testing.T) {
	for _, n := range someSizes() {
		for count := range 70 {
			if count != len(treesOf(n)) {
				expectNone(t, "more or fewer hashes", bytesOf(n, listOf(count)))
			}
		}
	}
	expectNone(t, "very many hashes", bytesOf(1, listOf(5000)))
	expectNone(t, "as many hashes as leaves", bytesOf(5000, listOf(5000)))
}

// P9.2, and P1 of DOC.md: ErrForm at numbers below nought, above MaxLeaves, and at the bounds of what a number may be, with no hashes, with some, and with as many as the number has bits.
func TestParseOfNoSizes(t *testing.T) {
	for _, n := range noSizes() {
		for count := range 22 {
			expectNone(t, "a number that is no size", bytesOf(n, listOf(count)))
		}
		expectNone(t, "a number that is no size, with its bits", bytesOf(n, listOf(bits.OnesCount(uint(n)))))
		expectNone(t, "a number that is no size, alone", bytesOf(n, nil)[:8])
	}
}

// P9.2, and P1 of DOC.md: ErrForm at bytes that are cut off anywhere, and at some behind or ahead.
func TestParseCutOff(t *testing.T) {
	for _, n := range []int{0, 1, 2, 3, 7, 64, 100, api.MaxLeaves - 1, api.MaxLeaves} {
		b := bytesOf(n, listOf(len(treesOf(n))))
		mustParse(t, b)
		for cut := range len(b) {
			expectNone(t, "bytes that are cut off", b[:cut])
			if cut > 0 {
				expectNone(t, "bytes without their beginning", b[cut:])
			}
		}
		for _, more := range []int{1, 2, 4, 8, 12, 31, 32, 33, 64, 1000} {
			expectNone(t, "noughts behind", append(slices.Clone(b), make([]byte, more)...))
			expectNone(t, "bytes behind", append(slices.Clone(b), bytes.Repeat([]byte{1}, more)...))
			expectNone(t, "bytes ahead", append(bytes.Repeat([]byte{1}, more), b...))
		}
		expectNone(t, "two ranges", slices.Concat(b, b))
	}
	expectNone(t, "no bytes", nil)
	expectNone(t, "empty bytes", []byte{})
}

// P9.2, and P1 of DOC.md: ErrForm at counts that say more or less than there is, up to the greatest.
func TestParseOfCountsThatLie(t *testing.T) {
	for _, n := range []int{0, 1, 3, 7, 1<<20 - 1, 1 << 20} {
		have := len(treesOf(n))
		for _, count := range []uint32{0, 1, 2, 3, 4, 19, 20, 21, 22, 1 << 16, 1 << 27, 1<<31 - 1, 1 << 31, 1<<32 - 32, 1<<32 - 1} {
			if int(count) == have {
				continue
			}
			b := bytesOf(n, listOf(have))
			binary.BigEndian.PutUint32(b[8:], count)
			expectNone(t, "a count that lies", b)
			expectNone(t, "a count that lies, alone", b[:12])
			expectNone(t, "a count that lies, with more behind", append(b, make([]byte, 64)...))
		}
	}
}

// P9.2: each byte of the number and of the count matters: another one makes another range, or none.
func TestParseOfTurnedBytes(t *testing.T) {
	const n = 5
	l := listOf(n)
	r := rangeOf(t, l)
	for at := range r.Bytes() {
		for bit := range 8 {
			b := r.Bytes()
			b[at] ^= 1 << bit
			o, e := compact.Parse(b)
			if e == api.ErrForm && o == nil && at < 12 {
				continue
			}
			if e != api.OK || o.Equal(r) || !bytes.Equal(o.Bytes(), b) {
				t.Errorf("the byte %d turned: error %d", at, e)
			}
		}
	}
}
