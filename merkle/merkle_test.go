package merkle_test

import (
	"encoding/binary"
	"math"
	"slices"
	"testing"

	"syngraph/merkle"
	"syngraph/sha"
	"syngraph/tag"
)

// most is how long the lists get: beyond the powers of two 16, 32 and 64.
const most = 70

// hashAt tells one hash for each number.
func hashAt(i int) sha.Hash {
	return sha.Sum(binary.BigEndian.AppendUint64(nil, uint64(i)))
}

// listOf tells a list of n hashes, each another one, with no spare room.
func listOf(n int) []sha.Hash {
	l := make([]sha.Hash, n)
	for i := range l {
		l[i] = hashAt(i)
	}
	return l
}

// splitOf reckons the split by doubling.
func splitOf(n int) int {
	if n <= 1 {
		return 0
	}
	k := 1
	for k < n-k {
		k += k
	}
	return k
}

// rootOf reckons the root by the chapter's words.
func rootOf(l []sha.Hash) sha.Hash {
	if len(l) == 0 {
		return sha.Sum([]byte{})
	}
	if len(l) == 1 {
		return l[0]
	}
	k := splitOf(len(l))
	return tag.Node(rootOf(l[:k]), rootOf(l[k:]))
}

// pairedUp reckons the root another way: neighbours are made one, from the leaves up, and who has none goes up alone.
func pairedUp(l []sha.Hash) sha.Hash {
	if len(l) == 1 {
		return l[0]
	}
	var up []sha.Hash
	for pair := range slices.Chunk(l, 2) {
		h := pair[0]
		if len(pair) == 2 {
			h = tag.Node(pair[0], pair[1])
		}
		up = append(up, h)
	}
	return pairedUp(up)
}

// P7.1: all small numbers.
func TestSplitOfSmallNumbers(t *testing.T) {
	for n, want := range []int{0, 0, 1, 2, 2, 4, 4, 4, 4, 8, 8, 8, 8, 8, 8, 8, 8, 16} {
		if got := merkle.Split(n); got != want {
			t.Errorf("Split of %d: %d, not %d", n, got, want)
		}
	}
	for n := range 5000 {
		if got := merkle.Split(n); got != splitOf(n) {
			t.Errorf("Split of %d: %d, not %d", n, got, splitOf(n))
		}
	}
}

// P7.1: each power of two, one less and one more, up to the bound of int.
func TestSplitAtPowersOfTwo(t *testing.T) {
	for i := 2; i < 63; i++ {
		n := 1 << i
		for at, want := range map[int]int{n - 1: n / 2, n: n / 2, n + 1: n} {
			if got := merkle.Split(at); got != want {
				t.Errorf("Split of %d: %d, not %d", at, got, want)
			}
		}
	}
	for _, n := range []int{math.MaxInt, math.MaxInt - 1} {
		if got := merkle.Split(n); got != 1<<62 {
			t.Errorf("Split of %d: %d", n, got)
		}
	}
}

// P7.1: 0 at numbers below 2, down to the bound of int.
func TestSplitBelowTwo(t *testing.T) {
	for _, n := range []int{1, 0, -1, -2, -3, -4, -5, -1000, math.MinInt32, math.MinInt + 1, math.MinInt} {
		if got := merkle.Split(n); got != 0 {
			t.Errorf("Split of %d: %d", n, got)
		}
	}
}

// P7.1: the hashes of leaves, with no bytes and with many, in order.
func TestLeaves(t *testing.T) {
	lists := [][][]byte{nil, {}, {nil}, {{}}, {nil, {}, nil}, {{0}}, {{}, {0}, {0, 0}, {}}, {[]byte("b"), []byte("a"), []byte("b")}}
	var many [][]byte
	for i := range 300 {
		many = append(many, slices.Repeat([]byte{byte(i)}, i))
	}
	many = append(many, make([]byte, 1<<16), nil)
	for _, l := range append(lists, many) {
		got := merkle.Leaves(l)
		if len(got) != len(l) {
			t.Fatalf("Leaves of %d: %d", len(l), len(got))
		}
		for i, b := range l {
			if got[i] != tag.Leaf(b) {
				t.Errorf("Leaves of %d, at %d: %s", len(l), i, got[i].Show())
			}
		}
	}
}

// P7.1: the root of lists of each size, against the chapter's words, and made up from the leaves.
func TestRoot(t *testing.T) {
	for n := range most {
		l := listOf(n)
		got := merkle.Root(l)
		if got != rootOf(l) || n > 0 && got != pairedUp(l) {
			t.Errorf("Root of %d: %s", n, got.Show())
		}
	}
	for _, n := range []int{255, 256, 257, 1023, 1025} {
		l := listOf(n)
		if got := merkle.Root(l); got != rootOf(l) {
			t.Errorf("Root of %d: %s", n, got.Show())
		}
	}
}

// P7.1: the root of an empty list, nil or not, is the sum of no bytes, and that of one hash is this, whatever it is.
func TestRootOfFew(t *testing.T) {
	const sumOfNone = "e3b0c44298fc1c149afbf4c8996fb92427ae41e4649b934ca495991b7852b855"
	for _, l := range [][]sha.Hash{nil, {}, listOf(3)[:0], listOf(3)[3:]} {
		if got := merkle.Root(l); got.Show() != sumOfNone {
			t.Errorf("Root of none: %s", got.Show())
		}
	}
	for _, h := range []sha.Hash{{}, hashAt(1), sha.Sum(nil)} {
		if got := merkle.Root([]sha.Hash{h}); got != h {
			t.Errorf("Root of %s alone: %s", h.Show(), got.Show())
		}
	}
}

// P7.1: hashes that are the same, or nought, are hashes as others are.
func TestRootOfSameHashes(t *testing.T) {
	for n := range 20 {
		for _, h := range []sha.Hash{{}, hashAt(1)} {
			l := slices.Repeat([]sha.Hash{h}, n)
			if got := merkle.Root(l); got != rootOf(l) {
				t.Errorf("Root of %d times %s: %s", n, h.Show(), got.Show())
			}
		}
	}
}

// P7.1: the root hangs on each hash and on its place.
func TestRootHangsOnAll(t *testing.T) {
	for n := range 20 {
		l := listOf(n)
		first := merkle.Root(l)
		for i := range l {
			l[i][31] ^= 1
			if merkle.Root(l) == first {
				t.Errorf("Root of %d doesn't hang on the hash %d", n, i)
			}
			l[i][31] ^= 1
			if i == 0 {
				continue
			}
			l[i], l[i-1] = l[i-1], l[i]
			if merkle.Root(l) == first {
				t.Errorf("Root of %d doesn't hang on the place %d", n, i)
			}
			l[i], l[i-1] = l[i-1], l[i]
		}
	}
}

// P7.1: leaves and their root as one, seven of them.
func TestRootOfSevenLeaves(t *testing.T) {
	l := merkle.Leaves([][]byte{[]byte("a"), []byte("b"), []byte("c"), []byte("d"), []byte("e"), []byte("f"), []byte("g")})
	four := tag.Node(tag.Node(l[0], l[1]), tag.Node(l[2], l[3]))
	three := tag.Node(tag.Node(l[4], l[5]), l[6])
	if got := merkle.Root(l); got != tag.Node(four, three) {
		t.Errorf("Root of seven: %s", got.Show())
	}
}
