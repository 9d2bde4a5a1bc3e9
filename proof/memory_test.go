package proof_test

import (
	"slices"
	"testing"

	"syngraph/api"
	"syngraph/merkle"
	"syngraph/proof"
	"syngraph/sha"
	"syngraph/tag"
)

// sevenLeaves tells the hashes of the leaves a to g.
func sevenLeaves() []sha.Hash {
	return merkle.Leaves([][]byte{[]byte("a"), []byte("b"), []byte("c"), []byte("d"), []byte("e"), []byte("f"), []byte("g")})
}

// P8.3: the chapter's example, the path d, ab, efg of the third of seven leaves; and layer 7's, the proof c, d, ab, efg from 3.
func TestExample(t *testing.T) {
	l := sevenLeaves()
	ab, efg := tag.Node(l[0], l[1]), tag.Node(tag.Node(l[4], l[5]), l[6])
	root := merkle.Root(l)
	if e := proof.In(l[2], 2, 7, []sha.Hash{l[3], ab, efg}, root); e != api.OK {
		t.Errorf("In of the third of seven: error %d", e)
	}
	if e := proof.On(3, 7, merkle.Root(l[:3]), root, []sha.Hash{l[2], l[3], ab, efg}); e != api.OK {
		t.Errorf("On from 3 in seven: error %d", e)
	}
}

// P8.3: each path that layer 7 tells is right, and as long as Length says.
func TestPathsAreRight(t *testing.T) {
	for n := range most {
		l := listOf(n)
		root := merkle.Root(l)
		for i, h := range l {
			p, e := merkle.Path(l, i)
			if e != api.OK {
				t.Fatalf("Path of %d in %d: error %d", i, n, e)
			}
			if e := proof.In(h, i, n, p, root); e != api.OK || proof.Length(i, n) != len(p) {
				t.Errorf("In of %d in %d: error %d", i, n, e)
			}
		}
	}
}

// P8.3: each proof that layer 7 tells is right, from none and from all too.
func TestProofsAreRight(t *testing.T) {
	for n := range most {
		l := listOf(n)
		root := merkle.Root(l)
		for m := range n + 1 {
			p, e := merkle.Proof(l, m)
			if e != api.OK {
				t.Fatalf("Proof from %d in %d: error %d", m, n, e)
			}
			if e := proof.On(m, n, merkle.Root(l[:m]), root, p); e != api.OK {
				t.Errorf("On from %d in %d: error %d", m, n, e)
			}
		}
	}
}

// P8.3: lists of hashes that are all the same, or nought, have right paths and proofs, too.
func TestSameHashesAreRight(t *testing.T) {
	for n := range 20 {
		for _, h := range []sha.Hash{{}, hashAt(1), sha.Sum(nil)} {
			l := slices.Repeat([]sha.Hash{h}, n)
			for i := range l {
				p, _ := merkle.Path(l, i)
				wantLead(t, h, i, n, p, merkle.Root(l))
			}
			for m := range n + 1 {
				p, _ := merkle.Proof(l, m)
				wantOn(t, m, n, merkle.Root(l[:m]), merkle.Root(l), p, api.OK)
			}
		}
	}
}

// P8.3: a few longer lists, about powers of two.
func TestLongListsAreRight(t *testing.T) {
	for _, n := range []int{255, 256, 257, 1000, 1025} {
		l := listOf(n)
		root := merkle.Root(l)
		for _, at := range []int{0, 1, 2, n / 3, n / 2, 127, 128, 129, n - 2, n - 1} {
			p, _ := merkle.Path(l, at)
			wantLead(t, l[at], at, n, p, root)
			p, _ = merkle.Proof(l, at)
			wantOn(t, at, n, merkle.Root(l[:at]), root, p, api.OK)
		}
	}
}

// asked asks every call, by hashes that are right for a path, for a proof, or for neither.
func asked(l []sha.Hash, at, n int) {
	proof.Lead(hashAt(at), at, n, l)
	proof.In(hashAt(at), at, n, l, hashAt(n))
	proof.Both(at, n, hashAt(at), l)
	proof.On(at, n, hashAt(at), hashAt(n), l)
}

// P8.3: what is handed in, its spare room too, is the same behind each call, whatever it answers.
func TestHandedInNotChanged(t *testing.T) {
	whole := listOf(40)
	for n := range 35 {
		for at := -1; at <= n+1; at++ {
			for length := range 9 {
				asked(whole[5:5+length], at, n)
			}
		}
		if !slices.Equal(whole, listOf(40)) {
			t.Fatalf("hashes that were handed in for %d, or what is behind them, were changed", n)
		}
	}
	for n := 1; n < 35; n++ {
		l := listOf(n)
		for at := range n {
			path, steps := pathOf(l, at), proofOf(l, at)
			asked(path, at, n)
			asked(steps, at, n)
			if !slices.Equal(path, pathOf(l, at)) || !slices.Equal(steps, proofOf(l, at)) {
				t.Fatalf("a path or a proof for %d of %d was changed", at, n)
			}
		}
	}
}

// P8.3: what is told later goes by what is handed in then, not by what was handed in ahead of it, and doesn't hang on what was asked.
func TestHandedInNotKept(t *testing.T) {
	for n := 2; n < 35; n++ {
		l := listOf(n)
		for at := 1; at < n; at++ {
			path, steps := pathOf(l, at), proofOf(l, at)
			proof.Lead(l[at], at, n, path)
			proof.Both(at, n, rootOf(l[:at]), steps)
			clear(path)
			clear(steps)
			wantLead(t, l[at], at, n, path, leadOf(l[at], at, n, path))
			first, second := bothOf(at, n, true, rootOf(l[:at]), steps)
			wantBoth(t, at, n, rootOf(l[:at]), steps, first, second)
			wantLead(t, l[at], at, n, pathOf(l, at), rootOf(l))
			wantBoth(t, at, n, rootOf(l[:at]), proofOf(l, at), rootOf(l[:at]), rootOf(l))
		}
	}
}

// P8.3: hashes in the spare room of a path or a proof don't belong to it.
func TestSpareRoomIsNoHash(t *testing.T) {
	l := listOf(7)
	path, steps := pathOf(l, 2), proofOf(l, 3)
	wantNoLead(t, l[2], 2, 7, path[:2], rootOf(l), api.ErrProof)
	wantNeither(t, 3, 7, rootOf(l[:3]), rootOf(l), steps[:3], api.ErrProof)
	wantNoLead(t, l[2], 2, 7, path[:0], rootOf(l), api.ErrProof)
	wantNeither(t, 3, 7, rootOf(l[:3]), rootOf(l), steps[:0], api.ErrProof)
}
