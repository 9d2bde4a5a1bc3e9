package compact_test

import (
	"bytes"
	"encoding/binary"
	"slices"
	"testing"

	"syngraph/api"
	"syngraph/compact"
	"syngraph/sha"
	"syngraph/tag"
)

// most is how long the lists get: beyond the powers of two 16, 32 and 64.
const most = 70

// hashAt tells one hash for each number.
func hashAt(i int) sha.Hash {
	return sha.Sum(binary.BigEndian.AppendUint64(nil, uint64(i)))
}

// listOf tells a list of n hashes, each another one, with no spare room.
func listOf(n int) []sha.Hash {
	l := make([]sha.Hash, n)
	for i := range l {
		l[i] = hashAt(i)
	}
	return l
}

// rootOf reckons the root of a list by layer 7's words.
func rootOf(l []sha.Hash) sha.Hash {
	if len(l) == 0 {
		return sha.Sum([]byte{})
	}
	if len(l) == 1 {
		return l[0]
	}
	k := 1
	for k+k < len(l) {
		k += k
	}
	return tag.Node(rootOf(l[:k]), rootOf(l[k:]))
}

// treesOf reckons how many leaves the whole trees of n leaves have: the greatest power of two that is not above what is left, again and again.
func treesOf(n int) []int {
	var sizes []int
	for n > 0 {
		k := 1
		for k+k <= n {
			k += k
		}
		sizes = append(sizes, k)
		n -= k
	}
	return sizes
}

// peaksOf reckons the peaks of a list by the chapter's words.
func peaksOf(l []sha.Hash) []sha.Hash {
	var peaks []sha.Hash
	for _, k := range treesOf(len(l)) {
		peaks = append(peaks, rootOf(l[:k]))
		l = l[k:]
	}
	return peaks
}

// expectRange tells the test where a range doesn't stand for a list.
func expectRange(t *testing.T, what string, r *compact.Range, l []sha.Hash) {
	t.Helper()
	peaks := peaksOf(l)
	if r.Size() != len(l) || r.Root() != rootOf(l) || !slices.Equal(r.Peaks(), peaks) || !bytes.Equal(r.Bytes(), bytesOf(len(l), peaks)) {
		t.Errorf("%s: %d leaves, not %d, %d peaks, not %d, or other hashes", what, r.Size(), len(l), len(r.Peaks()), len(peaks))
	}
}

// mustAppend puts leaves behind those of a range that has room for them.
func mustAppend(t *testing.T, r *compact.Range, l ...sha.Hash) {
	t.Helper()
	if e := r.Append(l...); e != api.OK {
		t.Fatalf("Append of %d behind %d: error %d", len(l), r.Size(), e)
	}
}

// rangeOf makes the range of a list.
func rangeOf(t *testing.T, l []sha.Hash) *compact.Range {
	t.Helper()
	r := compact.New()
	mustAppend(t, r, l...)
	return r
}

// P9.1: New is of no leaves, and each one is one's own.
func TestNew(t *testing.T) {
	const sumOfNone = "e3b0c44298fc1c149afbf4c8996fb92427ae41e4649b934ca495991b7852b855"
	r := compact.New()
	expectRange(t, "New", r, nil)
	if r.Root().Show() != sumOfNone || len(r.Peaks()) != 0 {
		t.Errorf("New: the root %s, %d peaks", r.Root().Show(), len(r.Peaks()))
	}
	mustAppend(t, r, hashAt(1))
	expectRange(t, "New behind another one", compact.New(), nil)
}

// P9.1: the chapter's example, and four and five leaves, with their roots.
func TestFewLeaves(t *testing.T) {
	a, b, c, d, e := hashAt(0), hashAt(1), hashAt(2), hashAt(3), hashAt(4)
	ab, cd := tag.Node(a, b), tag.Node(c, d)
	abcd := tag.Node(ab, cd)
	roots := []sha.Hash{a, ab, tag.Node(ab, c), abcd, tag.Node(abcd, e)}
	r := compact.New()
	for i, want := range [][]sha.Hash{{a}, {ab}, {ab, c}, {abcd}, {abcd, e}} {
		mustAppend(t, r, hashAt(i))
		if !slices.Equal(r.Peaks(), want) || r.Root() != roots[i] || r.Size() != i+1 {
			t.Errorf("%d leaves: %d peaks, the root %s", r.Size(), len(r.Peaks()), r.Root().Show())
		}
	}
	mustAppend(t, r, hashAt(5), hashAt(6))
	want := []sha.Hash{abcd, tag.Node(e, hashAt(5)), hashAt(6)}
	if !slices.Equal(r.Peaks(), want) || r.Root() != tag.Node(abcd, tag.Node(want[1], want[2])) {
		t.Errorf("seven leaves: %d peaks, the root %s", len(r.Peaks()), r.Root().Show())
	}
}

// P9.1: lists of each size, the leaves appended one by one.
func TestOneByOne(t *testing.T) {
	l := listOf(most)
	r := compact.New()
	for n, h := range l {
		mustAppend(t, r, h)
		expectRange(t, "one by one", r, l[:n+1])
	}
}

// P9.1: lists of each size, all leaves at once.
func TestAllAtOnce(t *testing.T) {
	for n := range most {
		l := listOf(n)
		expectRange(t, "all at once", rangeOf(t, l), l)
	}
	for _, n := range []int{255, 256, 257, 1023, 1025, 4095} {
		l := listOf(n)
		expectRange(t, "all of many at once", rangeOf(t, l), l)
	}
}

// P9.1: lists of each size, in two parts, and in parts that all have one size.
func TestInParts(t *testing.T) {
	for n := range most {
		l := listOf(n)
		for first := range n + 1 {
			r := rangeOf(t, l[:first])
			mustAppend(t, r, l[first:]...)
			expectRange(t, "in two parts", r, l)
		}
		for size := 1; size <= n; size++ {
			r := compact.New()
			for part := range slices.Chunk(l, size) {
				mustAppend(t, r, part...)
			}
			expectRange(t, "in parts of one size", r, l)
		}
	}
}

// P9.1: a list in every way in which it can be parted, with the same end; no part at all between them changes that.
func TestInAllParts(t *testing.T) {
	const n = 11
	l := listOf(n)
	for cuts := range 1 << (n - 1) {
		r := compact.New()
		from := 0
		for i := 1; i <= n; i++ {
			if i < n && cuts>>(i-1)&1 == 0 {
				continue
			}
			mustAppend(t, r)
			mustAppend(t, r, l[from:i]...)
			from = i
		}
		expectRange(t, "in any parts", r, l)
	}
}

// P9.1: leaves that are the same, or nought, are leaves as others are; a range's own peaks may be leaves, too.
func TestSameLeaves(t *testing.T) {
	for n := range 20 {
		for _, h := range []sha.Hash{{}, hashAt(1), sha.Sum(nil)} {
			l := slices.Repeat([]sha.Hash{h}, n)
			expectRange(t, "the same leaf", rangeOf(t, l), l)
		}
		l := listOf(n)
		r := rangeOf(t, l)
		mustAppend(t, r, r.Peaks()...)
		expectRange(t, "its own peaks", r, append(l, peaksOf(l)...))
	}
}

// P9.1: Append of no leaves at all is OK and changes nothing.
func TestAppendOfNone(t *testing.T) {
	for n := range most {
		l := listOf(n)
		r := rangeOf(t, l)
		mustAppend(t, r)
		mustAppend(t, r, nil...)
		mustAppend(t, r, []sha.Hash{}...)
		mustAppend(t, r, l[:0]...)
		expectRange(t, "Append of none", r, l)
	}
}

// P9.1: what is asked changes nothing.
func TestAskedAgain(t *testing.T) {
	for n := range 20 {
		l := listOf(n)
		r := rangeOf(t, l)
		for range 3 {
			expectRange(t, "asked again", r, l)
			if !r.Equal(r) || !r.Copy().Equal(r) {
				t.Errorf("%d leaves: not the same as itself", n)
			}
		}
	}
}
