package collide_test

import (
	"bytes"
	"slices"
	"testing"

	"syngraph/api"
	"syngraph/collide"
	"syngraph/merkle"
	"syngraph/sha"
	"syngraph/tag"
)

// most is how long the lists get: beyond the powers of two 8, 16 and 32.
const most = 36

// leafAt tells one leaf's bytes for each number: the first one is empty.
func leafAt(i int) []byte {
	b := []byte{}
	for ; i > 0; i >>= 8 {
		b = append(b, byte(i))
	}
	return slices.Clip(b)
}

// leavesFrom tells n leaves, each another one, from a number on, with no spare room.
func leavesFrom(first, n int) [][]byte {
	l := make([][]byte, n)
	for i := range l {
		l[i] = leafAt(first + i)
	}
	return l
}

// leavesOf tells n leaves, each another one.
func leavesOf(n int) [][]byte {
	return leavesFrom(0, n)
}

// withLeaf tells leaves of which the one at a place is another one.
func withLeaf(l [][]byte, at int, leaf []byte) [][]byte {
	other := cloned(l)
	other[at] = leaf
	return other
}

// cloned tells the same leaves in other memory.
func cloned(l [][]byte) [][]byte {
	other := make([][]byte, len(l))
	for i, leaf := range l {
		other[i] = bytes.Clone(leaf)
	}
	return other
}

// same tells whether two lists have the same leaves.
func same(a, b [][]byte) bool {
	return slices.EqualFunc(a, b, bytes.Equal)
}

// rootOf tells the root of a leaf list.
func rootOf(l [][]byte) sha.Hash {
	return merkle.Root(merkle.Leaves(l))
}

// pathOf tells the path of a leaf that is there.
func pathOf(t *testing.T, l [][]byte, i int) []sha.Hash {
	t.Helper()
	p, e := merkle.Path(merkle.Leaves(l), i)
	if e != api.OK {
		t.Fatalf("the path of %d in %d: error %d", i, len(l), e)
	}
	return p
}

// proofOf tells the proof from m that is there.
func proofOf(t *testing.T, l [][]byte, m int) []sha.Hash {
	t.Helper()
	p, e := merkle.Proof(merkle.Leaves(l), m)
	if e != api.OK {
		t.Fatalf("the proof from %d in %d: error %d", m, len(l), e)
	}
	return p
}

// changedHashes tells hashes, for each place those of which the one at it differs in one bit.
func changedHashes(l []sha.Hash) [][]sha.Hash {
	var all [][]sha.Hash
	for at := range l {
		other := slices.Clone(l)
		other[at][at*7%32] ^= 1 << (at % 8)
		all = append(all, other)
	}
	return all
}

// otherLengths tells hashes without one of them and with one more, at each place, and without all of them.
func otherLengths(l []sha.Hash) [][]sha.Hash {
	var all [][]sha.Hash
	for at := range l {
		all = append(all, slices.Delete(slices.Clone(l), at, at+1))
	}
	for at := range len(l) + 1 {
		for _, h := range []sha.Hash{{}, sha.Sum(nil), tag.Leaf(nil)} {
			all = append(all, slices.Insert(slices.Clone(l), at, h))
		}
	}
	if len(l) > 0 {
		all = append(all, nil, []sha.Hash{})
	}
	return append(all, slices.Concat(l, make([]sha.Hash, 5000)))
}

// wantNothing holds an answer to no collision, with nothing beside it.
func wantNothing(t *testing.T, what string, c collide.Collision, found bool) {
	t.Helper()
	if found || len(c.A) > 0 || len(c.B) > 0 {
		t.Fatalf("%s: found is %t, beside %d and %d bytes", what, found, len(c.A), len(c.B))
	}
}

// wantLists holds Lists, both ways round, to no collision.
func wantLists(t *testing.T, what string, a, b [][]byte) {
	t.Helper()
	c, found := collide.Lists(a, b)
	wantNothing(t, what, c, found)
	c, found = collide.Lists(b, a)
	wantNothing(t, what, c, found)
}

// P10.1: two inputs that differ, and so have other sums, are no right collision, wherever and by whatever they differ.
func TestRightOfOthers(t *testing.T) {
	b := bytes.Repeat([]byte{7, 0}, 70)
	for at := range b {
		other := bytes.Clone(b)
		other[at] ^= 1 << (at % 8)
		for _, pair := range [][2][]byte{{b, other}, {b, b[:at]}, {b, b[at+1:]}, {nil, other}, {{}, other}} {
			if (collide.Collision{A: pair[0], B: pair[1]}).Right() || (collide.Collision{A: pair[1], B: pair[0]}).Right() {
				t.Fatalf("Right of others, at %d", at)
			}
		}
	}
	if (collide.Collision{A: []byte{0}}).Right() || (collide.Collision{B: []byte{0}}).Right() {
		t.Errorf("Right of nought and nothing")
	}
}

// P10.1: two inputs that are the same are no right collision, though they have one sum: in one memory, in two, and of nothing at all.
func TestRightOfSame(t *testing.T) {
	for n := range 140 {
		b := bytes.Repeat([]byte{byte(n)}, n)
		if (collide.Collision{A: b, B: b}).Right() || (collide.Collision{A: b, B: bytes.Clone(b)}).Right() {
			t.Errorf("Right of %d bytes, twice", n)
		}
	}
	for _, c := range []collide.Collision{{}, {A: []byte{}}, {B: []byte{}}, {A: []byte{}, B: []byte{}}} {
		if c.Right() {
			t.Errorf("Right of nothing")
		}
	}
}

// P10.1: a list and itself don't differ, nor do two with the same leaves in other memory.
func TestListsOfSame(t *testing.T) {
	for n := range most {
		l := leavesOf(n)
		wantLists(t, "a list and itself", l, l)
		wantLists(t, "a list and its like", l, cloned(l))
		wantLists(t, "a list and its like, with spare room", l, append(cloned(l), leafAt(9))[:n])
	}
}

// P10.1: lists that differ in a leaf, at each place, have other roots.
func TestListsThatDifferInALeaf(t *testing.T) {
	for n := range most {
		l := leavesOf(n)
		for at := range l {
			wantLists(t, "another leaf", l, withLeaf(l, at, leafAt(5000)))
			wantLists(t, "an empty leaf", l, withLeaf(l, at, nil))
			wantLists(t, "a longer leaf", l, withLeaf(l, at, append(leafAt(at), 0)))
			wantLists(t, "the leaf beside it", l, withLeaf(l, at, leafAt(at+1)))
		}
	}
}

// P10.1: lists that differ in several leaves, in all of them or in their order have other roots.
func TestListsThatDifferInSeveral(t *testing.T) {
	for n := 2; n < most; n++ {
		l := leavesOf(n)
		for at := range n - 1 {
			other := cloned(l)
			other[at], other[at+1] = other[at+1], other[at]
			wantLists(t, "two in another order", l, other)
			wantLists(t, "all from a place on", l, slices.Concat(l[:at], leavesFrom(900, n-at)))
			wantLists(t, "all up to a place", l, slices.Concat(leavesFrom(900, at+1), l[at+1:]))
		}
		wantLists(t, "all", l, leavesFrom(1, n))
		other := cloned(l)
		slices.Reverse(other)
		wantLists(t, "the other way round", l, other)
	}
}

// P10.1: lists of different lengths are told nothing of, even where one is the beginning of the other, none among them.
func TestListsOfOtherLengths(t *testing.T) {
	for n := range most {
		l := leavesOf(n)
		for m := range n {
			wantLists(t, "a beginning", l, l[:m])
			wantLists(t, "an end", l, l[n-m:])
		}
		wantLists(t, "an empty leaf more", l, append(cloned(l), nil))
		wantLists(t, "the last leaf again", l, append(cloned(l), leafAt(n-1)))
	}
}

// P10.1: a leaf whose bytes are those of a node's halves, or their hashes, is not that node.
func TestListsOfWhatNodesAreOf(t *testing.T) {
	l := leavesOf(2)
	h := merkle.Leaves(l)
	node, root := tag.Input(1, h[0][:], h[1][:]), rootOf(l)
	for _, leaf := range [][]byte{node, node[1:], root[:]} {
		wantLists(t, "what a node is of", l, [][]byte{leaf})
		wantLists(t, "what a node is of", leavesOf(1), [][]byte{leaf})
		wantLists(t, "what a node is of", leavesOf(3), [][]byte{leaf, leafAt(2)})
	}
}

// P10.1, and the rules of DOC.md: nil and empty are one, of lists and of leaves.
func TestListsNilAndEmpty(t *testing.T) {
	wantLists(t, "none and none", nil, nil)
	wantLists(t, "none and none", nil, [][]byte{})
	wantLists(t, "empty leaves", [][]byte{nil}, [][]byte{{}})
	wantLists(t, "empty leaves", [][]byte{nil, {}, nil}, [][]byte{{}, nil, nil})
	wantLists(t, "none and an empty leaf", nil, [][]byte{nil})
	wantLists(t, "none and an empty leaf", [][]byte{}, [][]byte{{}})
}
