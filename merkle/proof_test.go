package merkle_test

import (
	"math"
	"slices"
	"testing"

	"syngraph/api"
	"syngraph/merkle"
	"syngraph/sha"
	"syngraph/tag"
)

// subOf reckons the chapter's sub(m, n, whole) of a list of n.
func subOf(l []sha.Hash, m int, whole bool) []sha.Hash {
	n := len(l)
	switch k := splitOf(n); {
	case m == n && whole:
		return nil
	case m == n:
		return []sha.Hash{rootOf(l)}
	case m <= k:
		return slices.Concat(subOf(l[:k], m, whole), []sha.Hash{rootOf(l[k:])})
	default:
		return slices.Concat(subOf(l[k:], m-k, false), []sha.Hash{rootOf(l[:k])})
	}
}

// proofOf reckons a proof by the chapter's words.
func proofOf(l []sha.Hash, m int) []sha.Hash {
	if m == 0 || m == len(l) {
		return nil
	}
	return subOf(l, m, true)
}

// bothRoots reckons the roots of the first m and of all n from a proof and, where that leaves it out, the root of the first m.
func bothRoots(known sha.Hash, m, n int, whole bool, proof []sha.Hash) (early, late sha.Hash) {
	if m == n {
		if !whole {
			known = proof[0]
		}
		return known, known
	}
	k, last := splitOf(n), len(proof)-1
	if m <= k {
		early, late = bothRoots(known, m, k, whole, proof[:last])
		return early, tag.Node(late, proof[last])
	}
	early, late = bothRoots(known, m-k, n-k, false, proof[:last])
	return tag.Node(proof[last], early), tag.Node(proof[last], late)
}

// P7.2: the proof from each m in lists of each size, against the chapter's words, and both roots come out of it.
func TestProof(t *testing.T) {
	for n := range most {
		l := listOf(n)
		for m := range n + 1 {
			p := mustProof(t, l, m)
			if !slices.Equal(p, proofOf(l, m)) {
				t.Fatalf("Proof from %d in %d: %d hashes", m, n, len(p))
			}
			if m == 0 {
				continue
			}
			early, late := bothRoots(rootOf(l[:m]), m, n, true, p)
			if early != rootOf(l[:m]) || late != rootOf(l) {
				t.Errorf("Proof from %d in %d has not both roots in it", m, n)
			}
		}
	}
}

// P7.2: the chapter's example, the proof from 3 in seven leaves, and those from the others.
func TestProofOfSeven(t *testing.T) {
	l, ab, cd, ef, efg, abcd := sevenLeaves()
	for m, want := range [][]sha.Hash{nil, {l[1], cd, efg}, {cd, efg}, {l[2], l[3], ab, efg}, {efg}, {l[4], l[5], l[6], abcd}, {ef, l[6], abcd}, nil} {
		if p := mustProof(t, l, m); !slices.Equal(p, want) {
			t.Errorf("Proof from %d in seven: %d hashes", m, len(p))
		}
	}
}

// P7.2: nothing is in the proof from none and from all, in an empty list too.
func TestProofWithNothing(t *testing.T) {
	for n := range most {
		l := listOf(n)
		if p := mustProof(t, l, 0); len(p) != 0 {
			t.Errorf("Proof from 0 in %d: %d hashes", n, len(p))
		}
		if p := mustProof(t, l, n); len(p) != 0 {
			t.Errorf("Proof from all in %d: %d hashes", n, len(p))
		}
	}
	if p := mustProof(t, nil, 0); len(p) != 0 {
		t.Errorf("Proof from 0 in none: %d hashes", len(p))
	}
}

// P7.2, and P1 of DOC.md: ErrRange, with nothing beside it, where m is not from 0 to how many there are.
func TestProofBeyond(t *testing.T) {
	for n := range most {
		for _, m := range []int{-1, n + 1, n + 2, -2, -n - 1, 2*n + 2, 1 << 32, -1 << 32, math.MaxInt, math.MinInt, math.MaxInt - 1, math.MinInt + 1} {
			p, e := merkle.Proof(listOf(n), m)
			if e != api.ErrRange || len(p) != 0 {
				t.Errorf("Proof from %d in %d: error %d, %d hashes", m, n, e, len(p))
			}
		}
	}
	for _, m := range []int{-1, 1} {
		if p, e := merkle.Proof(nil, m); e != api.ErrRange || len(p) != 0 {
			t.Errorf("Proof from %d in none: error %d, %d hashes", m, e, len(p))
		}
	}
}
