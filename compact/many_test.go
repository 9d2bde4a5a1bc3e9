package compact_test

import (
	"bytes"
	"slices"
	"testing"

	"syngraph/api"
	"syngraph/compact"
	"syngraph/sha"
	"syngraph/tag"
)

// filledTo makes a range of n leaves that nobody appended: its peaks are the hashes at and beyond some number.
func filledTo(t *testing.T, n int) *compact.Range {
	t.Helper()
	return mustParse(t, bytesOf(n, listOf(len(treesOf(n)))))
}

// grownPeaks reckons the peaks of so many leaves as sizes say, with these peaks, and one leaf more: two trees of one size are made one.
func grownPeaks(sizes []int, peaks []sha.Hash, leaf sha.Hash) ([]int, []sha.Hash) {
	sizes, peaks = append(slices.Clone(sizes), 1), append(slices.Clone(peaks), leaf)
	for last := len(sizes) - 1; last > 0 && sizes[last] == sizes[last-1]; last-- {
		sizes[last-1] += sizes[last]
		peaks[last-1] = tag.Node(peaks[last-1], peaks[last])
		sizes, peaks = sizes[:last], peaks[:last]
	}
	return sizes, peaks
}

// expectRefused tells the test where leaves aren't refused, or where something has changed then.
func expectRefused(t *testing.T, r *compact.Range, l ...sha.Hash) {
	t.Helper()
	ahead, size, root, peaks, all := r.Copy(), r.Size(), r.Root(), r.Peaks(), r.Bytes()
	if e := r.Append(l...); e != api.ErrMany {
		t.Fatalf("Append of %d behind %d: error %d", len(l), size, e)
	}
	if r.Size() != size || r.Root() != root || !slices.Equal(r.Peaks(), peaks) || !bytes.Equal(r.Bytes(), all) || !r.Equal(ahead) {
		t.Errorf("Append of %d behind %d was refused, and changed it", len(l), size)
	}
}

// P9.1: just so many as MaxLeaves, all at once, and then no leaf more; none at all is still OK.
func TestJustSoMany(t *testing.T) {
	l := listOf(api.MaxLeaves)
	r := rangeOf(t, l)
	root := rootOf(l)
	for range 2 {
		if r.Size() != api.MaxLeaves || r.Root() != root || !slices.Equal(r.Peaks(), []sha.Hash{root}) {
			t.Errorf("MaxLeaves: %d leaves, %d peaks, the root %s", r.Size(), len(r.Peaks()), r.Root().Show())
		}
		expectRefused(t, r, hashAt(0))
		mustAppend(t, r)
		mustAppend(t, r, []sha.Hash{}...)
	}
	back := mustParse(t, r.Bytes())
	expectEqual(t, "read back", back, r, true)
	expectRefused(t, back, hashAt(0))
}

// P9.1: a range of MaxLeaves that was read refuses one leaf more, and many.
func TestFull(t *testing.T) {
	r := filledTo(t, api.MaxLeaves)
	for _, n := range []int{1, 2, 3, 100, api.MaxLeaves, api.MaxLeaves + 1} {
		expectRefused(t, r, make([]sha.Hash, n)...)
		mustAppend(t, r)
	}
	if r.Size() != api.MaxLeaves || r.Root() != hashAt(0) || !slices.Equal(r.Peaks(), listOf(1)) {
		t.Errorf("a full range has changed: %d leaves", r.Size())
	}
}

// P9.1: a range below MaxLeaves refuses as many more as are one too many, and more; then it takes just so many as there is room for.
func TestOneTooMany(t *testing.T) {
	for _, room := range []int{1, 2, 3, 4, 7, 100} {
		n := api.MaxLeaves - room
		r := filledTo(t, n)
		expectRefused(t, r, listOf(room+1)...)
		expectRefused(t, r, listOf(room+50)...)
		sizes, peaks := treesOf(n), listOf(len(treesOf(n)))
		for i := range room {
			sizes, peaks = grownPeaks(sizes, peaks, hashAt(500+i))
			expectRefused(t, r, listOf(room-i+1)...)
			mustAppend(t, r, hashAt(500+i))
			if r.Size() != n+i+1 || !slices.Equal(r.Peaks(), peaks) {
				t.Fatalf("%d leaves more behind %d: %d, or other peaks", i+1, n, r.Size())
			}
		}
		if len(sizes) != 1 || r.Root() != peaks[0] {
			t.Errorf("%d leaves behind %d make no one tree", room, n)
		}
		expectRefused(t, r, hashAt(0))
		atOnce := filledTo(t, n)
		mustAppend(t, atOnce, listOf(500 + room)[500:]...)
		expectEqual(t, "all at once", atOnce, r, true)
	}
}

// P9.1, and P1 of DOC.md: very many at once, behind none and behind a few.
func TestVeryMany(t *testing.T) {
	few := listOf(5)
	for _, n := range []int{api.MaxLeaves + 1, 2 * api.MaxLeaves, 3*api.MaxLeaves + 7} {
		many := make([]sha.Hash, n)
		r := compact.New()
		expectRefused(t, r, many...)
		expectRange(t, "behind none", r, nil)
		mustAppend(t, r, few...)
		expectRefused(t, r, many...)
		expectRefused(t, r, many[:api.MaxLeaves-4]...)
		expectRange(t, "behind a few", r, few)
	}
}

// P9.1: great ranges go on as small ones do, at and around each power of two.
func TestGreatRanges(t *testing.T) {
	for bit := 7; bit <= 20; bit++ {
		for n := 1<<bit - 3; n < 1<<bit+3 && n < api.MaxLeaves; n++ {
			sizes, peaks := grownPeaks(treesOf(n), listOf(len(treesOf(n))), hashAt(99))
			r := filledTo(t, n)
			mustAppend(t, r, hashAt(99))
			if r.Size() != n+1 || !slices.Equal(r.Peaks(), peaks) || !slices.Equal(sizes, treesOf(n+1)) {
				t.Errorf("%d leaves and one: %d, or other peaks", n, r.Size())
			}
			root := peaks[len(peaks)-1]
			for i := len(peaks) - 2; i >= 0; i-- {
				root = tag.Node(peaks[i], root)
			}
			if r.Root() != root {
				t.Errorf("%d leaves and one: the root %s", n, r.Root().Show())
			}
		}
	}
}
