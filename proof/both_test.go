package proof_test

import (
	"math"
	"slices"
	"testing"

	"syngraph/api"
	"syngraph/proof"
	"syngraph/sha"
	"syngraph/tag"
)

// wantBoth holds Both to two roots.
func wantBoth(t *testing.T, m, n int, old sha.Hash, p []sha.Hash, one, two sha.Hash) {
	t.Helper()
	first, second, e := proof.Both(m, n, old, p)
	if e != api.OK || first != one || second != two {
		t.Fatalf("Both from %d in %d, by %d hashes: error %d, %s, %s", m, n, len(p), e, first.Show(), second.Show())
	}
}

// wantOn holds On to an answer.
func wantOn(t *testing.T, m, n int, old, root sha.Hash, p []sha.Hash, want api.Errno) {
	t.Helper()
	if e := proof.On(m, n, old, root, p); e != want {
		t.Fatalf("On from %d in %d, by %d hashes: error %d, not %d", m, n, len(p), e, want)
	}
}

// wantNeither holds Both to an error, with nothing beside it, and On to the same one.
func wantNeither(t *testing.T, m, n int, old, root sha.Hash, p []sha.Hash, want api.Errno) {
	t.Helper()
	first, second, e := proof.Both(m, n, old, p)
	if e != want || first != (sha.Hash{}) || second != (sha.Hash{}) {
		t.Fatalf("Both from %d in %d, by %d hashes: error %d, %s, %s", m, n, len(p), e, first.Show(), second.Show())
	}
	wantOn(t, m, n, old, root, p, want)
}

// P8.2: from each m of lists of each size, against the chapter's words.
func TestBothOfEach(t *testing.T) {
	for n := range most {
		l := listOf(n)
		for m := range n + 1 {
			p, old, root := proofOf(l, m), rootOf(l[:m]), rootOf(l)
			if m == 0 {
				wantBoth(t, m, n, old, p, old, old)
			} else {
				wantBoth(t, m, n, old, p, old, root)
			}
			wantOn(t, m, n, old, root, p, api.OK)
		}
	}
}

// P8.2: hashes that belong to no list lead where the chapter says, too; On takes them where the first root is old and the second one root.
func TestBothOfAnyHashes(t *testing.T) {
	hashes := allHashes(20)
	for n := 1; n < most; n++ {
		for m := 1; m < n; m++ {
			p := hashes[m%5:][:subLength(m, n, true)]
			for _, old := range []sha.Hash{{}, hashAt(m), sha.Sum(nil), p[0]} {
				first, second := bothOf(m, n, true, old, p)
				wantBoth(t, m, n, old, p, first, second)
				wantOn(t, m, n, first, second, p, api.OK)
				if first != old {
					wantOn(t, m, n, old, second, p, api.ErrProof)
				}
			}
		}
	}
}

// P8.2: the two roots written out, for lists of two and three.
func TestBothOfFew(t *testing.T) {
	a, b, c := hashAt(1), hashAt(2), hashAt(3)
	ab := tag.Node(a, b)
	wantBoth(t, 1, 2, a, []sha.Hash{b}, a, ab)
	wantBoth(t, 1, 3, a, []sha.Hash{b, c}, a, tag.Node(ab, c))
	wantBoth(t, 2, 3, ab, []sha.Hash{c}, ab, tag.Node(ab, c))
	d := hashAt(4)
	wantBoth(t, 3, 4, tag.Node(ab, c), []sha.Hash{c, d, ab}, tag.Node(ab, c), tag.Node(ab, tag.Node(c, d)))
}

// P8.2: where a proof begins with a root of its own, what is led up doesn't hang on old; and On asks for old all the same.
func TestBothWithAnotherOld(t *testing.T) {
	for n := range most {
		l := listOf(n)
		for m := 1; m < n; m++ {
			p, old, root := proofOf(l, m), rootOf(l[:m]), rootOf(l)
			for _, other := range []sha.Hash{changed(old, m), {}, root, sha.Sum(nil)} {
				first, second := bothOf(m, n, true, other, p)
				wantBoth(t, m, n, other, p, first, second)
				wantOn(t, m, n, other, root, p, api.ErrProof)
			}
		}
	}
}

// P8.2: from none: Both tells old twice, whatever it is; On asks that it be the root of no leaf, and nothing of root, but of no leaf at all.
func TestFromNone(t *testing.T) {
	none, many := sha.Sum(nil), listOf(5000)
	for _, n := range append(greatSizes(), 1, 2, 3, 4, 5, 7, 8, 64, most) {
		for _, old := range []sha.Hash{none, {}, hashAt(1), changed(none, 255)} {
			wantBoth(t, 0, n, old, nil, old, old)
			wantBoth(t, 0, n, old, []sha.Hash{}, old, old)
			for _, root := range []sha.Hash{none, {}, hashAt(1), hashAt(2)} {
				want := api.ErrProof
				if old == none {
					want = api.OK
				}
				wantOn(t, 0, n, old, root, nil, want)
				wantOn(t, 0, n, old, root, []sha.Hash{}, want)
				for _, p := range [][]sha.Hash{{root}, {old}, many[:2], many} {
					wantNeither(t, 0, n, old, root, p, api.ErrProof)
				}
			}
		}
	}
}

// P8.2: from none of none: On asks that both be the root of no leaf.
func TestFromNoneOfNone(t *testing.T) {
	none, many := sha.Sum(nil), listOf(5000)
	for _, old := range []sha.Hash{none, {}, hashAt(1), changed(none, 0)} {
		wantBoth(t, 0, 0, old, nil, old, old)
		wantBoth(t, 0, 0, old, []sha.Hash{}, old, old)
		for _, root := range []sha.Hash{none, {}, hashAt(1), changed(none, 0)} {
			want := api.ErrProof
			if old == none && root == none {
				want = api.OK
			}
			wantOn(t, 0, 0, old, root, nil, want)
			wantOn(t, 0, 0, old, root, []sha.Hash{}, want)
			for _, p := range [][]sha.Hash{{root}, {old}, many[:2], many} {
				wantNeither(t, 0, 0, old, root, p, api.ErrProof)
			}
		}
	}
}

// P8.2: from all: Both tells old twice, whatever it is; On asks that it be root.
func TestFromAll(t *testing.T) {
	many := listOf(5000)
	for _, n := range append(greatSizes(), 1, 2, 3, 4, 5, 7, 8, 64, most) {
		for at, old := range []sha.Hash{sha.Sum(nil), {}, hashAt(1)} {
			wantBoth(t, n, n, old, nil, old, old)
			wantBoth(t, n, n, old, []sha.Hash{}, old, old)
			wantOn(t, n, n, old, old, nil, api.OK)
			wantOn(t, n, n, old, old, []sha.Hash{}, api.OK)
			wantOn(t, n, n, old, changed(old, 100*at), nil, api.ErrProof)
			wantOn(t, n, n, changed(old, 100*at), old, nil, api.ErrProof)
			wantOn(t, n, n, old, hashAt(2), nil, api.ErrProof)
			for _, p := range [][]sha.Hash{{old}, {{}}, many[:2], many} {
				wantNeither(t, n, n, old, old, p, api.ErrProof)
				wantNeither(t, n, n, old, hashAt(2), p, api.ErrProof)
			}
		}
	}
}

// P8.2: ErrProof of On, where a hash of the proof, the order of these or a root is another one; Both leads somewhere else.
func TestOnWithAnother(t *testing.T) {
	for n := range most {
		l := listOf(n)
		root := rootOf(l)
		for m := 1; m < n; m++ {
			p, old := proofOf(l, m), rootOf(l[:m])
			for at := range p {
				other := withChanged(p, at)
				first, second := bothOf(m, n, true, old, other)
				wantBoth(t, m, n, old, other, first, second)
				wantOn(t, m, n, old, root, other, api.ErrProof)
			}
			wantOn(t, m, n, old, changed(root, m), p, api.ErrProof)
			wantOn(t, m, n, changed(old, n), root, p, api.ErrProof)
			wantOn(t, m, n, old, old, p, api.ErrProof)
			wantOn(t, m, n, old, sha.Hash{}, p, api.ErrProof)
			wantOn(t, m, n, root, old, p, api.ErrProof)
			if len(p) > 1 {
				slices.Reverse(p)
				wantOn(t, m, n, old, root, p, api.ErrProof)
			}
		}
	}
}

// P8.2: ErrProof of On, where the proof is one from another m, or old is the root of another one.
func TestOnFromAnother(t *testing.T) {
	const n = 37
	l := listOf(n)
	root := rootOf(l)
	for m := 1; m < n; m++ {
		for other := 1; other < n; other++ {
			if other == m {
				continue
			}
			wantOn(t, m, n, rootOf(l[:m]), root, proofOf(l, other), api.ErrProof)
			wantOn(t, m, n, rootOf(l[:other]), root, proofOf(l, m), api.ErrProof)
			wantOn(t, m, n, rootOf(l[:other]), root, proofOf(l, other), api.ErrProof)
		}
	}
}

// P8.2: each byte of both roots is looked at, where old is led up and where it isn't.
func TestOnLooksAtAllOfRoots(t *testing.T) {
	l := listOf(7)
	for _, m := range []int{3, 4, 7} {
		p, old, root := proofOf(l, m), rootOf(l[:m]), rootOf(l)
		for bit := range 256 {
			wantOn(t, m, 7, changed(old, bit), root, p, api.ErrProof)
			wantOn(t, m, 7, old, changed(root, bit), p, api.ErrProof)
		}
	}
}

// P8.2: ErrProof, with nothing beside it, where there is a hash more or less, wherever, or very many more.
func TestBothOfAnotherLength(t *testing.T) {
	many := listOf(5000)
	for n := range most {
		l := listOf(n)
		root := rootOf(l)
		for m := 1; m < n; m++ {
			p, old := proofOf(l, m), rootOf(l[:m])
			for _, other := range slices.Concat(oneLess(p), oneMore(p, old), oneMore(p, root), [][]sha.Hash{nil, {}, many}) {
				wantNeither(t, m, n, old, root, other, api.ErrProof)
			}
		}
	}
}

// P8.2, and P1 of DOC.md: ErrRange, with nothing beside it, where m is not from 0 to n, whatever stands beside it.
func TestBothOutOfRange(t *testing.T) {
	no := [][2]int{{0, -1}, {-1, -1}, {-1, 0}, {1, 0}, {-2, -1}, {1, -1}, {2, 1}}
	for n := range most {
		no = append(no, [2]int{-1, n}, [2]int{n + 1, n}, [2]int{n + 2, n}, [2]int{-n - 1, n}, [2]int{-n - 1, -n - 1}, [2]int{0, -n - 1})
	}
	bounds := []int{math.MinInt, math.MinInt + 1, math.MaxInt - 1, math.MaxInt, -1 << 32, 1 << 32}
	for _, m := range bounds {
		for _, n := range append(bounds, -2, -1, 0, 1, 2, 7) {
			if m < 0 || m > n {
				no = append(no, [2]int{m, n})
			}
		}
	}
	none, h, many := sha.Sum(nil), hashAt(1), listOf(500)
	for _, at := range no {
		for _, p := range [][]sha.Hash{nil, {}, {h}, many[:7], many[:63], many} {
			wantNeither(t, at[0], at[1], none, none, p, api.ErrRange)
			wantNeither(t, at[0], at[1], h, h, p, api.ErrRange)
			wantNeither(t, at[0], at[1], none, h, p, api.ErrRange)
		}
	}
}

// P8.2: sizes far beyond any list, at both ends and between; one hash more, one less and none are ErrProof there, too.
func TestBothOfGreatSizes(t *testing.T) {
	hashes, old := allHashes(80), hashAt(-1)
	for _, n := range greatSizes() {
		for _, m := range placesIn(n) {
			if m == 0 || m == n {
				wantBoth(t, m, n, old, nil, old, old)
				continue
			}
			length := subLength(m, n, true)
			p := hashes[:length]
			first, second := bothOf(m, n, true, old, p)
			wantBoth(t, m, n, old, p, first, second)
			wantOn(t, m, n, first, second, p, api.OK)
			wantOn(t, m, n, first, changed(second, 9), p, api.ErrProof)
			for _, other := range []int{0, length - 1, length + 1, 80} {
				wantNeither(t, m, n, old, old, hashes[:other], api.ErrProof)
			}
		}
	}
}
