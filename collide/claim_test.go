package collide_test

import (
	"math"
	"slices"
	"testing"

	"syngraph/api"
	"syngraph/collide"
	"syngraph/sha"
	"syngraph/tag"
)

// wantIn holds In to an error, or OK, with no collision beside it.
func wantIn(t *testing.T, what string, l [][]byte, x collide.Claim, want api.Errno) {
	t.Helper()
	c, found, e := collide.In(l, x)
	if e != want {
		t.Fatalf("%s: In of %d of %d in %d, by %d hashes: error %d, not %d", what, x.Index, x.Size, len(l), len(x.Path), e, want)
	}
	wantNothing(t, what, c, found)
}

// P10.2: the chapter's example, a right path for a leaf that stands there, at each place of lists of each size: no collision.
func TestInOfEach(t *testing.T) {
	for n := range most {
		l := leavesOf(n)
		for i, leaf := range l {
			p := pathOf(t, l, i)
			wantIn(t, "the leaf that stands there", l, collide.Claim{Index: i, Size: n, Leaf: leaf, Path: p}, api.OK)
			wantIn(t, "its like", cloned(l), collide.Claim{Index: i, Size: n, Leaf: leafAt(i), Path: slices.Clone(p)}, api.OK)
		}
	}
}

// P10.2: ErrProof, where another leaf is said to stand there, those that stand elsewhere among them.
func TestInOfAnotherLeaf(t *testing.T) {
	for n := range most {
		l := leavesOf(n)
		for i := range l {
			p := pathOf(t, l, i)
			for other := range n + 1 {
				if other != i {
					wantIn(t, "another leaf", l, collide.Claim{Index: i, Size: n, Leaf: leafAt(other), Path: p}, api.ErrProof)
				}
			}
			wantIn(t, "a longer leaf", l, collide.Claim{Index: i, Size: n, Leaf: append(leafAt(i), 0), Path: p}, api.ErrProof)
			h := tag.Leaf(leafAt(i))
			wantIn(t, "the leaf's hash", l, collide.Claim{Index: i, Size: n, Leaf: h[:], Path: p}, api.ErrProof)
		}
	}
}

// P10.2: ErrProof at another place of the list, with the path of either; of a list whose leaves are all the same the right leaf stands there, too.
func TestInAtAnotherIndex(t *testing.T) {
	for n := range most {
		l := leavesOf(n)
		for i, leaf := range l {
			for at := range l {
				if at == i {
					continue
				}
				wantIn(t, "its path elsewhere", l, collide.Claim{Index: at, Size: n, Leaf: leaf, Path: pathOf(t, l, i)}, api.ErrProof)
				wantIn(t, "a path from elsewhere", l, collide.Claim{Index: i, Size: n, Leaf: leaf, Path: pathOf(t, l, at)}, api.ErrProof)
			}
		}
	}
	alike := slices.Repeat([][]byte{{5}}, 8)
	for i := range alike {
		wantIn(t, "one like the others", alike, collide.Claim{Index: i, Size: 8, Leaf: []byte{5}, Path: pathOf(t, alike, 0)}, api.OK)
	}
}

// P10.2: ErrProof, where a hash of the path is changed, is one too many, or one too few.
func TestInByAnotherPath(t *testing.T) {
	for n := range most {
		l := leavesOf(n)
		for i, leaf := range l {
			p := pathOf(t, l, i)
			for _, other := range slices.Concat(changedHashes(p), otherLengths(p)) {
				wantIn(t, "another path", l, collide.Claim{Index: i, Size: n, Leaf: leaf, Path: other}, api.ErrProof)
				wantIn(t, "another path, and leaf", l, collide.Claim{Index: i, Size: n, Leaf: leafAt(n), Path: other}, api.ErrProof)
			}
			if len(p) > 1 {
				slices.Reverse(p)
				wantIn(t, "a path the other way round", l, collide.Claim{Index: i, Size: n, Leaf: leaf, Path: p}, api.ErrProof)
			}
		}
	}
}

// P10.2: ErrProof, where the claim is right of another list as long.
func TestInOfAnotherList(t *testing.T) {
	for n := range most {
		l := leavesOf(n)
		for i := range l {
			for at := range l {
				other := withLeaf(l, at, leafAt(700))
				wantIn(t, "of another list", l, collide.Claim{Index: i, Size: n, Leaf: other[i], Path: pathOf(t, other, i)}, api.ErrProof)
			}
		}
	}
}

// numbers tells numbers about nought, about n and at the bounds of what a number may be.
func numbers(n int) []int {
	return []int{
		-n - 1, -n, -2, -1, 0, 1, n - 1, n, n + 1, 2 * n, 2*n + 1, 1 << 32, -1 << 32, n + 1<<32,
		math.MinInt, math.MinInt + 1, math.MinInt + n, math.MaxInt, math.MaxInt - 1, math.MaxInt - n,
	}
}

// P10.2, and P1 of DOC.md: ErrRange, where the size is not the list's, or the index no place in it; it comes ahead of ErrProof, whatever the leaf and path are.
func TestInOutOfRange(t *testing.T) {
	for n := range most {
		l := leavesOf(n)
		for _, size := range numbers(n) {
			for _, index := range numbers(n) {
				if size == n && index >= 0 && index < n {
					continue
				}
				at := min(max(index, 0), n-1)
				for _, p := range [][]sha.Hash{nil, {}, {{}}, make([]sha.Hash, 64), make([]sha.Hash, 500)} {
					wantIn(t, "out of range", l, collide.Claim{Index: index, Size: size, Path: p}, api.ErrRange)
				}
				if n > 0 {
					wantIn(t, "out of range", l, collide.Claim{Index: index, Size: size, Leaf: l[at], Path: pathOf(t, l, at)}, api.ErrRange)
				}
			}
		}
	}
}

// P10.2: a path that is right of a beginning of the list, with that size, is ErrRange; with the list's own, ErrProof.
func TestInOfABeginning(t *testing.T) {
	for n := range most {
		l := leavesOf(n)
		for m := range n {
			for i, leaf := range l[:m] {
				p := pathOf(t, l[:m], i)
				wantIn(t, "of a beginning", l, collide.Claim{Index: i, Size: m, Leaf: leaf, Path: p}, api.ErrRange)
				wantIn(t, "of a beginning", l, collide.Claim{Index: i, Size: n, Leaf: leaf, Path: p}, api.ErrProof)
			}
		}
	}
}

// P10.2: in a list of no leaves there is no place; of one leaf the path has nothing in it. Leaves that are nil and empty are one.
func TestInOfFew(t *testing.T) {
	for _, l := range [][][]byte{nil, {}, leavesOf(3)[:0]} {
		wantIn(t, "in none", l, collide.Claim{}, api.ErrRange)
		wantIn(t, "in none", l, collide.Claim{Path: []sha.Hash{sha.Sum(nil)}}, api.ErrRange)
		wantIn(t, "in none", l, collide.Claim{Size: 1}, api.ErrRange)
	}
	for _, l := range [][][]byte{{nil}, {{}}} {
		for _, leaf := range [][]byte{nil, {}} {
			for _, p := range [][]sha.Hash{nil, {}} {
				wantIn(t, "in one", l, collide.Claim{Size: 1, Leaf: leaf, Path: p}, api.OK)
				wantIn(t, "in one", l, collide.Claim{Size: 1, Leaf: []byte{0}, Path: p}, api.ErrProof)
			}
			wantIn(t, "in one", l, collide.Claim{Size: 1, Leaf: leaf, Path: []sha.Hash{rootOf(l)}}, api.ErrProof)
		}
	}
}
