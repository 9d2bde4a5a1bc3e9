package collide_test

import (
	"slices"
	"testing"

	"syngraph/api"
	"syngraph/collide"
	"syngraph/sha"
)

// wantOn holds On to an error, or OK, with no collision beside it.
func wantOn(t *testing.T, what string, old, new [][]byte, p []sha.Hash, want api.Errno) {
	t.Helper()
	c, found, e := collide.On(collide.Growth{Old: old, New: new, Proof: p})
	if e != want {
		t.Fatalf("%s: On from %d to %d, by %d hashes: error %d, not %d", what, len(old), len(new), len(p), e, want)
	}
	wantNothing(t, what, c, found)
}

// P10.3: the proof between any two sizes, from none and from all among them: no collision.
func TestOnOfEach(t *testing.T) {
	for n := range most {
		l := leavesOf(n)
		for m := range n + 1 {
			p := proofOf(t, l, m)
			wantOn(t, "its beginning", l[:m], l, p, api.OK)
			wantOn(t, "the like of its beginning", cloned(l[:m]), l, slices.Clone(p), api.OK)
		}
	}
}

// P10.3: ErrProof, where a leaf of the old list, at each place, is another one than the new list has there.
func TestOnFromAnotherLeaf(t *testing.T) {
	for n := range most {
		l := leavesOf(n)
		for m := range n + 1 {
			p := proofOf(t, l, m)
			for at := range m {
				wantOn(t, "another leaf", withLeaf(l[:m], at, leafAt(800)), l, p, api.ErrProof)
				wantOn(t, "an empty leaf or a longer one", withLeaf(l[:m], at, leafAt(at<<8)), l, p, wantOf(at == 0))
				other := withLeaf(l, at, leafAt(800))
				wantOn(t, "the proof of another list", l[:m], other, p, api.ErrProof)
				wantOn(t, "the proof of another list", l[:m], other, proofOf(t, other, m), api.ErrProof)
			}
		}
	}
}

// wantOf tells what is asked of a right proof, or of another one.
func wantOf(right bool) api.Errno {
	if right {
		return api.OK
	}
	return api.ErrProof
}

// P10.3: ErrProof, where the old list is none of the new one's beginnings: its end, its middle, its leaves in another order.
func TestOnFromNoBeginning(t *testing.T) {
	for n := range most {
		l := leavesOf(n)
		for m := 1; m < n; m++ {
			p := proofOf(t, l, m)
			wantOn(t, "its end", l[n-m:], l, p, api.ErrProof)
			wantOn(t, "its middle", l[1:m+1], l, p, api.ErrProof)
			if m > 1 {
				other := cloned(l[:m])
				slices.Reverse(other)
				wantOn(t, "the other way round", other, l, p, api.ErrProof)
			}
		}
	}
}

// P10.3: ErrProof, where the proof is the one from another size, of which there are none that are the same as this one.
func TestOnByTheProofFromAnother(t *testing.T) {
	for n := range most {
		l := leavesOf(n)
		for m := range n + 1 {
			for other := range n + 1 {
				p := proofOf(t, l, other)
				nothing := len(p) == 0 && (m == 0 || m == n)
				if other != m {
					wantOn(t, "the proof from another", l[:m], l, p, wantOf(nothing))
				}
			}
		}
	}
}

// P10.3: ErrProof, where a hash of the proof is changed, is one too many, or one too few.
func TestOnByAnotherProof(t *testing.T) {
	for n := range most {
		l := leavesOf(n)
		for m := range n + 1 {
			p := proofOf(t, l, m)
			for _, other := range slices.Concat(changedHashes(p), otherLengths(p)) {
				wantOn(t, "another proof", l[:m], l, other, api.ErrProof)
			}
			if len(p) > 1 {
				slices.Reverse(p)
				wantOn(t, "a proof the other way round", l[:m], l, p, api.ErrProof)
			}
		}
	}
}

// P10.3: ErrProof, where something is proved from none; with nothing in the proof every list goes on from none.
func TestOnFromNone(t *testing.T) {
	for n := range most {
		l := leavesOf(n)
		for _, none := range [][][]byte{nil, {}, l[:0]} {
			wantOn(t, "from none", none, l, nil, api.OK)
			wantOn(t, "from none", none, l, []sha.Hash{}, api.OK)
			for _, h := range []sha.Hash{{}, sha.Sum(nil), rootOf(l)} {
				wantOn(t, "from none", none, l, []sha.Hash{h}, api.ErrProof)
			}
		}
	}
}

// P10.3: from all, with nothing in the proof, the lists must be the same.
func TestOnFromAll(t *testing.T) {
	for n := range most {
		l := leavesOf(n)
		wantOn(t, "from itself", l, l, nil, api.OK)
		wantOn(t, "from its like", cloned(l), l, []sha.Hash{}, api.OK)
		if n > 0 {
			wantOn(t, "from others", leavesFrom(1, n), l, nil, api.ErrProof)
			wantOn(t, "from itself", l, l, []sha.Hash{rootOf(l)}, api.ErrProof)
		}
	}
	wantOn(t, "from an empty leaf", [][]byte{nil}, [][]byte{{}}, nil, api.OK)
	wantOn(t, "from an empty leaf", [][]byte{{}}, [][]byte{nil, {3}}, proofOf(t, [][]byte{nil, {3}}, 1), api.OK)
}

// P10.3: ErrRange, where the old list is longer, ahead of ErrProof, whatever the proof is.
func TestOnFromALonger(t *testing.T) {
	for n := range most {
		l := leavesOf(n)
		for m := range n {
			for _, p := range [][]sha.Hash{nil, {}, {{}}, proofOf(t, l, m), {rootOf(l)}, make([]sha.Hash, 500)} {
				wantOn(t, "from a longer one", l, l[:m], p, api.ErrRange)
				wantOn(t, "from a longer one", leavesFrom(900, n), l[:m], p, api.ErrRange)
			}
		}
	}
	wantOn(t, "from an empty leaf to none", [][]byte{nil}, nil, nil, api.ErrRange)
}
