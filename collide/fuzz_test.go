package collide_test

import (
	"bytes"
	"math"
	"slices"
	"testing"

	"syngraph/api"
	"syngraph/collide"
	"syngraph/proof"
	"syngraph/sha"
	"syngraph/tag"
)

// listOf tells leaves by bytes: each byte says how long a leaf of it is.
func listOf(b []byte) [][]byte {
	var l [][]byte
	for _, x := range b[:min(len(b), 80)] {
		l = append(l, bytes.Repeat([]byte{x}, int(x%5)))
	}
	return l
}

// hashesOf tells hashes by bytes.
func hashesOf(b []byte) []sha.Hash {
	var l []sha.Hash
	for _, x := range b {
		l = append(l, sha.Sum([]byte{x}))
	}
	return l
}

// holdIn holds In to the chapter's words, where there are no collisions.
func holdIn(t *testing.T, l [][]byte, x collide.Claim) {
	t.Helper()
	want := api.ErrRange
	if x.Size == len(l) && x.Index >= 0 && x.Index < x.Size {
		want = proof.In(tag.Leaf(x.Leaf), x.Index, x.Size, x.Path, rootOf(l))
	}
	wantIn(t, "any", l, x, want)
}

// holdOn holds On to the chapter's words, where there are no collisions.
func holdOn(t *testing.T, old, new [][]byte, p []sha.Hash) {
	t.Helper()
	want := api.ErrRange
	if len(old) <= len(new) {
		want = proof.On(len(old), len(new), rootOf(old), rootOf(new), p)
	}
	wantOn(t, "any", old, new, p, want)
}

// P1 of DOC.md, and P10.1 to P10.4: no call panics, and each tells what the chapter says, whatever it is given.
func FuzzAll(f *testing.F) {
	f.Add([]byte(nil), []byte(nil), []byte(nil), 0, 0)
	f.Add([]byte("abcdefg"), []byte("abc"), []byte("xyz"), 2, 7)
	f.Add([]byte("abcdefg"), []byte("abcdefgh"), []byte(nil), 7, 7)
	f.Add([]byte{0, 0, 5, 5, 10}, []byte{5, 0}, []byte{0}, -1, -1)
	f.Add([]byte("aa"), []byte("aa"), []byte("a"), math.MaxInt, math.MinInt)
	f.Add(bytes.Repeat([]byte{9}, 70), bytes.Repeat([]byte{9}, 33), []byte("p"), math.MinInt, math.MaxInt)
	f.Fuzz(func(t *testing.T, one, two, three []byte, index, size int) {
		a, b, hashes := listOf(one), listOf(two), hashesOf(three)
		wantLists(t, "any", a, b)
		for _, leaf := range append(slices.Clone(b[:min(len(b), 3)]), nil, three) {
			for _, n := range []int{size, len(a), len(b)} {
				holdIn(t, a, collide.Claim{Index: index, Size: n, Leaf: leaf, Path: hashes})
				holdIn(t, a, collide.Claim{Index: index & 63, Size: n, Leaf: leaf, Path: hashes})
			}
		}
		if at := index & 63; at < len(a) {
			holdIn(t, a, collide.Claim{Index: at, Size: len(a), Leaf: a[at], Path: pathOf(t, a, at)})
			holdOn(t, a[:at], a, proofOf(t, a, at))
			holdOn(t, b, a, proofOf(t, a, at))
		}
		holdOn(t, a, b, hashes)
		holdOn(t, b, a, hashes)
		holdOn(t, a, append(cloned(a), b...), hashes)
		if (collide.Collision{A: one, B: two}).Right() {
			t.Errorf("Right of %v and %v", one, two)
		}
	})
}

func BenchmarkIn(b *testing.B) {
	l := leavesOf(1 << 12)
	for b.Loop() {
		collide.In(l, collide.Claim{Size: len(l), Leaf: l[0], Path: make([]sha.Hash, 12)})
	}
}
