package compact_test

import (
	"slices"
	"testing"

	"syngraph/api"
	"syngraph/compact"
	"syngraph/sha"
)

// expectEqual tells the test where Equal says otherwise, from either side.
func expectEqual(t *testing.T, what string, r, o *compact.Range, want bool) {
	t.Helper()
	if r.Equal(o) != want || o.Equal(r) != want {
		t.Errorf("Equal, %s, of %d and %d leaves: %t and %t, not %t", what, r.Size(), o.Size(), r.Equal(o), o.Equal(r), want)
	}
}

// P9.1: a copy is the same, and goes on by itself; so does what it was made of.
func TestCopyGoesOn(t *testing.T) {
	for n := range most {
		l := listOf(n)
		r := rangeOf(t, l)
		o := r.Copy()
		expectRange(t, "a copy", o, l)
		expectEqual(t, "a copy", r, o, true)
		first, second := slices.Clone(l), slices.Clone(l)
		for i := range 9 {
			first = append(first, hashAt(1000+i))
			mustAppend(t, r, hashAt(1000+i))
			expectRange(t, "a copy that stays", o, second)
			expectEqual(t, "a copy that stays", r, o, false)
			second = append(second, hashAt(2000+i))
			mustAppend(t, o, hashAt(2000+i))
			expectRange(t, "what was copied", r, first)
			expectEqual(t, "a copy that went on otherwise", r, o, false)
		}
		expectRange(t, "a copy that went on", o, second)
	}
}

// P9.1: a copy of a copy, and one that is made when there was more, and less.
func TestCopyOfCopy(t *testing.T) {
	l := listOf(most)
	var copies []*compact.Range
	last := compact.New()
	for n := range l {
		last = last.Copy()
		mustAppend(t, last, l[n])
		copies = append(copies, last, last.Copy())
	}
	for i, r := range copies {
		expectRange(t, "one of many copies", r, l[:i/2+1])
	}
}

// P9.1: Equal of lists of each size with each other: those of one size are the same, others aren't.
func TestEqualOfSizes(t *testing.T) {
	var ranges []*compact.Range
	for n := range most {
		ranges = append(ranges, rangeOf(t, listOf(n)))
	}
	for n, r := range ranges {
		other := compact.New()
		for _, h := range listOf(n) {
			mustAppend(t, other, h)
		}
		expectEqual(t, "appended otherwise", r, other, true)
		for m, o := range ranges {
			expectEqual(t, "of sizes", r, o, n == m)
		}
	}
}

// P9.1: Equal of ranges of one size that differ in one leaf, and so in one peak alone: any of them.
func TestEqualOfOtherPeaks(t *testing.T) {
	for n := 1; n < 40; n++ {
		r := rangeOf(t, listOf(n))
		for i := range n {
			l := listOf(n)
			l[i][31] ^= 1
			expectEqual(t, "of another leaf", r, rangeOf(t, l), false)
			l[i][31] ^= 1
			l[i][0] ^= 128
			expectEqual(t, "of another leaf", r, rangeOf(t, l), false)
		}
	}
}

// P9.1: Equal asks for both: ranges of other sizes aren't the same though they have the same peaks, nor though they have one root.
func TestEqualOfSamePeaks(t *testing.T) {
	for _, sizes := range [][2]int{{1, 2}, {1, api.MaxLeaves}, {3, 5}, {3, 6}, {7, 11}, {7, 7 << 17}, {1<<19 + 1, 1<<18 + 1}} {
		peaks := listOf(len(treesOf(sizes[0])))
		r, o := mustParse(t, bytesOf(sizes[0], peaks)), mustParse(t, bytesOf(sizes[1], peaks))
		if !slices.Equal(r.Peaks(), o.Peaks()) || r.Root() != o.Root() {
			t.Fatalf("%d and %d leaves: other peaks", sizes[0], sizes[1])
		}
		expectEqual(t, "of the same peaks", r, o, false)
	}
	l := listOf(3)
	nodes := []sha.Hash{rootOf(l[:2]), l[2]}
	if r, o := rangeOf(t, l), rangeOf(t, nodes); r.Root() != o.Root() {
		t.Errorf("the roots of three leaves and of two nodes differ")
	} else {
		expectEqual(t, "of one root", r, o, false)
	}
}

// P9.1: ranges of no leaves are the same, however they were made.
func TestEqualOfNone(t *testing.T) {
	none := []*compact.Range{compact.New(), compact.New().Copy(), mustParse(t, make([]byte, 12)), mustParse(t, compact.New().Bytes()), rangeOf(t, []sha.Hash{})}
	for _, r := range none {
		for _, o := range none {
			expectEqual(t, "of none", r, o, true)
		}
		expectEqual(t, "of none and one", r, rangeOf(t, []sha.Hash{{}}), false)
	}
}
