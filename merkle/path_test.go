package merkle_test

import (
	"math"
	"slices"
	"testing"

	"syngraph/api"
	"syngraph/merkle"
	"syngraph/sha"
	"syngraph/tag"
)

// pathOf reckons a path by the chapter's words.
func pathOf(l []sha.Hash, i int) []sha.Hash {
	if len(l) == 1 {
		return nil
	}
	k := splitOf(len(l))
	if i < k {
		return slices.Concat(pathOf(l[:k], i), []sha.Hash{rootOf(l[k:])})
	}
	return slices.Concat(pathOf(l[k:], i-k), []sha.Hash{rootOf(l[:k])})
}

// ledUp reckons the root of a list of n of which the leaf i is h, from its path alone.
func ledUp(h sha.Hash, i, n int, path []sha.Hash) sha.Hash {
	if n == 1 {
		return h
	}
	k, last := splitOf(n), len(path)-1
	if i < k {
		return tag.Node(ledUp(h, i, k, path[:last]), path[last])
	}
	return tag.Node(path[last], ledUp(h, i-k, n-k, path[:last]))
}

// mustPath tells a path that must be there.
func mustPath(t *testing.T, l []sha.Hash, i int) []sha.Hash {
	t.Helper()
	p, e := merkle.Path(l, i)
	if e != api.OK {
		t.Fatalf("Path of %d in %d: error %d", i, len(l), e)
	}
	return p
}

// mustProof tells a proof that must be there.
func mustProof(t *testing.T, l []sha.Hash, m int) []sha.Hash {
	t.Helper()
	p, e := merkle.Proof(l, m)
	if e != api.OK {
		t.Fatalf("Proof from %d in %d: error %d", m, len(l), e)
	}
	return p
}

// P7.2: the path of each leaf in lists of each size, against the chapter's words, and it leads up to the root.
func TestPath(t *testing.T) {
	for n := range most {
		l := listOf(n)
		for i := range n {
			p := mustPath(t, l, i)
			if !slices.Equal(p, pathOf(l, i)) {
				t.Fatalf("Path of %d in %d: %d hashes", i, n, len(p))
			}
			if ledUp(l[i], i, n, p) != rootOf(l) {
				t.Errorf("Path of %d in %d doesn't lead up to the root", i, n)
			}
		}
	}
}

// sevenLeaves tells a list of seven, and of it what paths and proofs are made of.
func sevenLeaves() (l []sha.Hash, ab, cd, ef, efg, abcd sha.Hash) {
	l = merkle.Leaves([][]byte{[]byte("a"), []byte("b"), []byte("c"), []byte("d"), []byte("e"), []byte("f"), []byte("g")})
	ab, cd, ef = tag.Node(l[0], l[1]), tag.Node(l[2], l[3]), tag.Node(l[4], l[5])
	return l, ab, cd, ef, tag.Node(ef, l[6]), tag.Node(ab, cd)
}

// P7.2: the chapter's example, the path of the third of seven leaves, and those of the others.
func TestPathOfSeven(t *testing.T) {
	l, ab, cd, ef, efg, abcd := sevenLeaves()
	for i, want := range [][]sha.Hash{{l[1], cd, efg}, {l[0], cd, efg}, {l[3], ab, efg}, {l[2], ab, efg}, {l[5], l[6], abcd}, {l[4], l[6], abcd}, {ef, abcd}} {
		if p := mustPath(t, l, i); !slices.Equal(p, want) {
			t.Errorf("Path of %d in seven: %d hashes", i, len(p))
		}
	}
}

// P7.2: the path of the one leaf there is has nothing in it.
func TestPathOfOne(t *testing.T) {
	if p := mustPath(t, listOf(1), 0); len(p) != 0 {
		t.Errorf("Path in one: %d hashes", len(p))
	}
}

// P7.2, and P1 of DOC.md: ErrRange, with nothing beside it, where there is no such leaf; in an empty list there is none.
func TestPathOfNoLeaf(t *testing.T) {
	for n := range most {
		for _, i := range []int{-1, n, n + 1, -2, -n - 1, 2*n + 1, 1 << 32, -1 << 32, math.MaxInt, math.MinInt, math.MaxInt - 1, math.MinInt + 1} {
			p, e := merkle.Path(listOf(n), i)
			if e != api.ErrRange || len(p) != 0 {
				t.Errorf("Path of %d in %d: error %d, %d hashes", i, n, e, len(p))
			}
		}
	}
	for _, l := range [][]sha.Hash{nil, {}} {
		if p, e := merkle.Path(l, 0); e != api.ErrRange || len(p) != 0 {
			t.Errorf("Path of the first in none: error %d, %d hashes", e, len(p))
		}
	}
}

// P7.2: hashes behind a list, in its spare room, are not in it.
func TestSpareRoomIsNoLeaf(t *testing.T) {
	l := listOf(9)[:5]
	if p, e := merkle.Path(l, 5); e != api.ErrRange || len(p) != 0 {
		t.Errorf("Path of what is behind a list: error %d, %d hashes", e, len(p))
	}
	if p, e := merkle.Proof(l, 6); e != api.ErrRange || len(p) != 0 {
		t.Errorf("Proof from more than a list: error %d, %d hashes", e, len(p))
	}
}
