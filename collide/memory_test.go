package collide_test

import (
	"slices"
	"testing"

	"syngraph/collide"
	"syngraph/sha"
)

// roomy tells the same bytes with spare room behind them that has something in it.
func roomy(b []byte) []byte {
	return append(slices.Clone(b), 0xaa, 0xbb, 0xcc)[:len(b)]
}

// roomyLeaves tells the same leaves, with spare room behind the list and behind each of them.
func roomyLeaves(l [][]byte) [][]byte {
	all := make([][]byte, 0, len(l)+2)
	for _, leaf := range l {
		all = append(all, roomy(leaf))
	}
	return append(all, roomy([]byte{1}), roomy([]byte{2}))[:len(l)]
}

// roomyHashes tells the same hashes with spare room behind them.
func roomyHashes(l []sha.Hash) []sha.Hash {
	return append(slices.Clone(l), sha.Hash{1}, sha.Hash{2})[:len(l)]
}

// whole tells bytes as they are now, with what is in their spare room.
func whole(b []byte) []byte {
	return slices.Clone(b[:cap(b)])
}

// wholeLeaves tells leaves as they are now, with what is in all spare room.
func wholeLeaves(l [][]byte) [][]byte {
	var all [][]byte
	for _, leaf := range l[:cap(l)] {
		all = append(all, whole(leaf))
	}
	return all
}

// given is what is handed in to a call, and how it was then.
type given struct {
	leaves, leavesThen [][][]byte
	hashes, hashesThen [][]sha.Hash
}

// leavesIn tells leaves to hand in, and takes note of them.
func (g *given) leavesIn(l [][]byte) [][]byte {
	l = roomyLeaves(l)
	g.leaves = append(g.leaves, l)
	g.leavesThen = append(g.leavesThen, wholeLeaves(l))
	return l
}

// hashesIn tells hashes to hand in, and takes note of them.
func (g *given) hashesIn(l []sha.Hash) []sha.Hash {
	l = roomyHashes(l)
	g.hashes = append(g.hashes, l)
	g.hashesThen = append(g.hashesThen, slices.Clone(l[:cap(l)]))
	return l
}

// wantSame holds all that was handed in, its spare room too, to what it was.
func (g *given) wantSame(t *testing.T, what string) {
	t.Helper()
	for i, l := range g.leaves {
		if !same(wholeLeaves(l), g.leavesThen[i]) {
			t.Fatalf("%s: leaves, or what is behind them, were changed", what)
		}
	}
	for i, l := range g.hashes {
		if !slices.Equal(l[:cap(l)], g.hashesThen[i]) {
			t.Fatalf("%s: hashes, or what is behind them, were changed", what)
		}
	}
}

// P10.4: inputs and lists that are handed in are the same behind Right and Lists, with their spare room.
func TestListsNotChanged(t *testing.T) {
	for n := range most {
		l := leavesOf(n)
		for _, other := range [][][]byte{l, leavesFrom(1, n), leavesOf(n + 1), nil} {
			var g given
			a, b := g.leavesIn(l), g.leavesIn(other)
			collide.Lists(a, b)
			collide.Lists(b, a)
			collide.Lists(a, a)
			for i := range min(len(a), len(b)) {
				collide.Collision{A: a[i], B: b[i]}.Right()
			}
			g.wantSame(t, "Lists")
		}
	}
}

// P10.4: a list, leaf and path that are handed in are the same behind In, also where it is refused.
func TestInNotChanged(t *testing.T) {
	for n := range most {
		l := leavesOf(n)
		for i := range l {
			p := pathOf(t, l, i)
			for _, path := range slices.Concat([][]sha.Hash{p, nil}, changedHashes(p)) {
				var g given
				list, leaves, hashes := g.leavesIn(l), g.leavesIn([][]byte{l[i], leafAt(n)}), g.hashesIn(path)
				for _, leaf := range leaves {
					collide.In(list, collide.Claim{Index: i, Size: n, Leaf: leaf, Path: hashes})
					collide.In(list, collide.Claim{Index: n, Size: n, Leaf: leaf, Path: hashes})
					collide.In(list, collide.Claim{Index: i, Size: -1, Leaf: leaf, Path: hashes})
				}
				g.wantSame(t, "In")
			}
		}
	}
}

// P10.4: both lists and the proof that are handed in are the same behind On, also where it is refused, and where both lists are one.
func TestOnNotChanged(t *testing.T) {
	for n := range most {
		l := leavesOf(n)
		for m := range n + 1 {
			p := proofOf(t, l, m)
			for _, proof := range slices.Concat([][]sha.Hash{p, nil}, changedHashes(p)) {
				var g given
				old, new, hashes := g.leavesIn(l[:m]), g.leavesIn(l), g.hashesIn(proof)
				collide.On(collide.Growth{Old: old, New: new, Proof: hashes})
				collide.On(collide.Growth{Old: new[:m], New: new, Proof: hashes})
				collide.On(collide.Growth{Old: new[n-m:], New: new, Proof: hashes})
				collide.On(collide.Growth{Old: new, New: old, Proof: hashes})
				g.wantSame(t, "On")
			}
		}
	}
}

// P10.4 and the rule that nothing is kept: what was handed in, and what was told of it, changes no later call.
func TestNothingKept(t *testing.T) {
	for n := 1; n < most; n++ {
		l := leavesOf(n)
		x := collide.Claim{Index: n / 2, Size: n, Leaf: l[n/2], Path: pathOf(t, l, n/2)}
		wantIn(t, "first", l, x, 0)
		for i := range x.Path {
			x.Path[i] = sha.Hash{}
		}
		l[n/2] = []byte("changed")
		x.Leaf, x.Path = l[n/2], pathOf(t, l, n/2)
		wantIn(t, "again", l, x, 0)
		wantOn(t, "again", l[:n/2+1], l, proofOf(t, l, n/2+1), 0)
		wantLists(t, "again", l, leavesOf(n))
	}
}
