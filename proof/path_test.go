package proof_test

import (
	"math"
	"slices"
	"testing"

	"syngraph/api"
	"syngraph/proof"
	"syngraph/sha"
	"syngraph/tag"
)

// wantLead holds Lead and In to a root.
func wantLead(t *testing.T, leaf sha.Hash, i, n int, path []sha.Hash, want sha.Hash) {
	t.Helper()
	root, e := proof.Lead(leaf, i, n, path)
	if e != api.OK || root != want {
		t.Fatalf("Lead of %d in %d, by %d hashes: error %d, %s", i, n, len(path), e, root.Show())
	}
	if e := proof.In(leaf, i, n, path, want); e != api.OK {
		t.Fatalf("In of %d in %d, by %d hashes: error %d", i, n, len(path), e)
	}
}

// wantNoLead holds Lead and In to an error, with nothing beside it.
func wantNoLead(t *testing.T, leaf sha.Hash, i, n int, path []sha.Hash, root sha.Hash, want api.Errno) {
	t.Helper()
	got, e := proof.Lead(leaf, i, n, path)
	if e != want || got != (sha.Hash{}) {
		t.Fatalf("Lead of %d in %d, by %d hashes: error %d, %s", i, n, len(path), e, got.Show())
	}
	for _, root := range []sha.Hash{root, leaf, {}} {
		if e := proof.In(leaf, i, n, path, root); e != want {
			t.Fatalf("In of %d in %d, by %d hashes: error %d", i, n, len(path), e)
		}
	}
}

// P8.1: each leaf of lists of each size, against the chapter's words.
func TestLeadOfEach(t *testing.T) {
	for n := range most {
		l := listOf(n)
		for i, h := range l {
			p := pathOf(l, i)
			wantLead(t, h, i, n, p, rootOf(l))
			if got := proof.Length(i, n); got != len(p) {
				t.Errorf("Length of %d in %d: %d, not %d", i, n, got, len(p))
			}
		}
	}
}

// P8.1: a path that belongs to no list leads where the chapter says, too; one leaf alone leads to itself.
func TestLeadOfAnyHashes(t *testing.T) {
	hashes := allHashes(20)
	for n := 1; n < most; n++ {
		for i := range n {
			p := hashes[i%5:][:lengthOf(i, n)]
			for _, leaf := range []sha.Hash{{}, hashAt(i), sha.Sum(nil), hashes[i%5]} {
				wantLead(t, leaf, i, n, p, leadOf(leaf, i, n, p))
			}
		}
	}
	for _, leaf := range []sha.Hash{{}, hashAt(1), sha.Sum(nil)} {
		wantLead(t, leaf, 0, 1, nil, leaf)
		wantLead(t, leaf, 0, 1, []sha.Hash{}, leaf)
	}
}

// P8.1: which side a hash is on, written out for two and three leaves.
func TestLeadOfFew(t *testing.T) {
	a, b, c := hashAt(1), hashAt(2), hashAt(3)
	wantLead(t, a, 0, 2, []sha.Hash{b}, tag.Node(a, b))
	wantLead(t, b, 1, 2, []sha.Hash{a}, tag.Node(a, b))
	three := tag.Node(tag.Node(a, b), c)
	wantLead(t, a, 0, 3, []sha.Hash{b, c}, three)
	wantLead(t, b, 1, 3, []sha.Hash{a, c}, three)
	wantLead(t, c, 2, 3, []sha.Hash{tag.Node(a, b)}, three)
}

// P8.1: ErrProof, where the path is that of another leaf; Lead then leads somewhere else, or is of another length.
func TestInAtAnotherPlace(t *testing.T) {
	for n := 2; n < most; n++ {
		l := listOf(n)
		root := rootOf(l)
		for i, h := range l {
			p := pathOf(l, i)
			for other := range n {
				if other == i {
					continue
				}
				if e := proof.In(h, other, n, p, root); e != api.ErrProof {
					t.Fatalf("In of %d in %d, at the place %d: error %d", i, n, other, e)
				}
				if len(p) == lengthOf(other, n) {
					wantLead(t, h, other, n, p, leadOf(h, other, n, p))
				} else {
					wantNoLead(t, h, other, n, p, root, api.ErrProof)
				}
			}
		}
	}
}

// P8.1: ErrProof, where the leaf, a hash of the path, the order of these or the root is another one; Lead leads somewhere else.
func TestInWithAnother(t *testing.T) {
	for n := 1; n < most; n++ {
		l := listOf(n)
		root := rootOf(l)
		for i, h := range l {
			p := pathOf(l, i)
			wrong := func(what string, e api.Errno) {
				t.Helper()
				if e != api.ErrProof {
					t.Fatalf("In of %d in %d, with another %s: error %d", i, n, what, e)
				}
			}
			wrong("leaf", proof.In(changed(h, i), i, n, p, root))
			wrong("leaf", proof.In(hashAt(most+i), i, n, p, root))
			wrong("root", proof.In(h, i, n, p, changed(root, 7*i)))
			wrong("root", proof.In(h, i, n, p, sha.Hash{}))
			for at := range p {
				other := withChanged(p, at)
				wrong("hash", proof.In(h, i, n, other, root))
				wantLead(t, h, i, n, other, leadOf(h, i, n, other))
			}
			if len(p) > 1 {
				slices.Reverse(p)
				wrong("order", proof.In(h, i, n, p, root))
			}
		}
	}
}

// P8.1: each byte of the root is looked at.
func TestInLooksAtAllOfRoot(t *testing.T) {
	l := listOf(7)
	for bit := range 256 {
		if e := proof.In(l[2], 2, 7, pathOf(l, 2), changed(rootOf(l), bit)); e != api.ErrProof {
			t.Errorf("In with the bit %d of the root changed: error %d", bit, e)
		}
	}
}

// P8.1: ErrProof, with nothing beside it, where there is a hash more or less, wherever, or very many more.
func TestLeadOfAnotherLength(t *testing.T) {
	many := listOf(5000)
	for n := 1; n < most; n++ {
		l := listOf(n)
		root := rootOf(l)
		for i, h := range l {
			p := pathOf(l, i)
			for _, other := range slices.Concat(oneLess(p), oneMore(p, h), oneMore(p, root), oneMore(p, sha.Hash{})) {
				wantNoLead(t, h, i, n, other, root, api.ErrProof)
			}
			wantNoLead(t, h, i, n, many, root, api.ErrProof)
			if len(p) > 0 {
				wantNoLead(t, h, i, n, nil, root, api.ErrProof)
				wantNoLead(t, h, i, n, []sha.Hash{}, root, api.ErrProof)
			}
		}
	}
}

// P8.1, and P1 of DOC.md: ErrRange, with nothing beside it, and no length, where there is no leaf i of n, whatever the path is.
func TestLeadOfNoLeaf(t *testing.T) {
	no := [][2]int{{0, 0}, {-1, 0}, {1, 0}, {0, -1}, {-1, -1}, {-2, -1}, {-3, -1}, {1, 1}, {-1, 1}}
	for n := range most {
		no = append(no, [2]int{-1, n}, [2]int{n, n}, [2]int{n + 1, n}, [2]int{-n, n - 2*most}, [2]int{2*n + 1, n})
	}
	bounds := []int{math.MinInt, math.MinInt + 1, math.MaxInt - 1, math.MaxInt, -1 << 32, 1 << 32}
	for _, i := range bounds {
		for _, n := range append(bounds, -2, -1, 0, 1, 2, 7) {
			if i < 0 || n <= 0 || i >= n {
				no = append(no, [2]int{i, n})
			}
		}
	}
	l := listOf(7)
	for _, at := range no {
		i, n := at[0], at[1]
		for _, p := range [][]sha.Hash{nil, {}, l[:1], pathOf(l, 2), listOf(63), listOf(500)} {
			wantNoLead(t, l[2], i, n, p, rootOf(l), api.ErrRange)
		}
		if got := proof.Length(i, n); got != 0 {
			t.Errorf("Length of %d in %d: %d", i, n, got)
		}
	}
}

// P8.1: sizes far beyond any list, at both ends and between; one hash more, one less and none are ErrProof there, too.
func TestLeadOfGreatSizes(t *testing.T) {
	hashes, leaf := allHashes(80), hashAt(-1)
	for _, n := range greatSizes() {
		for _, i := range placesIn(n) {
			if i == n {
				wantNoLead(t, leaf, i, n, hashes[:1], leaf, api.ErrRange)
				continue
			}
			length := lengthOf(i, n)
			if got := proof.Length(i, n); got != length {
				t.Fatalf("Length of %d in %d: %d, not %d", i, n, got, length)
			}
			wantLead(t, leaf, i, n, hashes[:length], leadOf(leaf, i, n, hashes[:length]))
			for _, other := range []int{0, length - 1, length + 1, 80} {
				wantNoLead(t, leaf, i, n, hashes[:other], leaf, api.ErrProof)
			}
		}
	}
}

// P8.1: lengths written out, at the bounds of int.
func TestLengthAtBounds(t *testing.T) {
	for _, c := range []struct{ i, n, want int }{
		{0, 1, 0}, {0, 2, 1}, {1, 2, 1}, {0, 3, 2}, {2, 3, 1}, {4, 5, 1}, {6, 7, 2}, {8, 9, 1}, {7, 9, 4},
		{0, 1 << 62, 62}, {1<<62 - 1, 1 << 62, 62}, {0, 1<<62 + 1, 63}, {1 << 62, 1<<62 + 1, 1},
		{0, math.MaxInt, 63}, {math.MaxInt - 1, math.MaxInt, 62}, {math.MaxInt - 2, math.MaxInt, 63},
	} {
		if got := proof.Length(c.i, c.n); got != c.want {
			t.Errorf("Length of %d in %d: %d, not %d", c.i, c.n, got, c.want)
		}
	}
}
