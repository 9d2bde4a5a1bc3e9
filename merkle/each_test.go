package merkle_test

import (
	"slices"
	"testing"

	"syngraph/merkle"
	"syngraph/sha"
)

// P7.1: all sizes in order, from 0 to how many there are, with their roots.
func TestEach(t *testing.T) {
	for n := range most {
		l := listOf(n)
		next := 0
		for size, root := range merkle.Each(l) {
			if size != next {
				t.Fatalf("Each of %d: the size %d, not %d", n, size, next)
			}
			if root != rootOf(l[:size]) {
				t.Errorf("Each of %d: at %d %s", n, size, root.Show())
			}
			next++
		}
		if next != n+1 {
			t.Errorf("Each of %d: %d sizes", n, next)
		}
	}
}

// P7.1: an empty list, nil or not, has the size 0 alone.
func TestEachOfNone(t *testing.T) {
	count := 0
	for size, root := range merkle.Each(nil) {
		if size != 0 || root != rootOf(nil) {
			t.Errorf("Each of none: at %d %s", size, root.Show())
		}
		count++
	}
	if count != 1 {
		t.Errorf("Each of none: %d sizes", count)
	}
}

// P7.1, and P1 of DOC.md: no more than is asked for, where it is left off at the first, at any and at the last size.
func TestEachIsLeft(t *testing.T) {
	for n := range 20 {
		l := listOf(n)
		each := merkle.Each(l)
		for last := range n + 1 {
			count := 0
			each(func(size int, _ sha.Hash) bool {
				count++
				return size != last
			})
			if count != last+1 {
				t.Errorf("Each of %d, left at %d: %d sizes", n, last, count)
			}
		}
	}
}

// P7.1: who leaves it by a break, or by a return, is let go.
func TestEachIsLeftByBreak(t *testing.T) {
	first := func(want int) int {
		for size := range merkle.Each(listOf(9)) {
			if size == want {
				return size
			}
		}
		return -1
	}
	for want := range 10 {
		if got := first(want); got != want {
			t.Errorf("the size %d: %d", want, got)
		}
	}
	if first(10) != -1 {
		t.Errorf("a size beyond the last one")
	}
}

// P7.1: what is handed out may be gone through again, within itself too, and tells the same each time.
func TestEachAgain(t *testing.T) {
	l := listOf(11)
	each := merkle.Each(l)
	for range each {
		break
	}
	for outer, root := range each {
		next := 0
		for size, inner := range each {
			if size != next || inner != rootOf(l[:size]) || size == outer && inner != root {
				t.Errorf("at %d within %d: %s", size, outer, inner.Show())
			}
			next++
		}
		if next != 12 || root != rootOf(l[:outer]) {
			t.Errorf("at %d: %d sizes within, %s", outer, next, root.Show())
		}
	}
}

// P7.3: what is handed out leans on the list as it was handed in, not on what became of it, ahead of going through it or while.
func TestEachOfChangedList(t *testing.T) {
	l, same := listOf(13), listOf(13)
	each := merkle.Each(l)
	clear(l)
	for size, root := range each {
		if root != rootOf(same[:size]) {
			t.Errorf("changed ahead, at %d: %s", size, root.Show())
		}
	}
	l = slices.Clone(same)
	count := 0
	for size, root := range merkle.Each(l) {
		if root != rootOf(same[:size]) {
			t.Errorf("changed while, at %d: %s", size, root.Show())
		}
		clear(l)
		count++
	}
	if count != 14 {
		t.Errorf("changed while: %d sizes", count)
	}
}

// P7.3: what is handed out is one's own: going through one has nothing to do with another.
func TestEachBySide(t *testing.T) {
	one, other := listOf(6), listOf(9)[3:]
	others := merkle.Each(other)
	for size, root := range merkle.Each(one) {
		if root != rootOf(one[:size]) {
			t.Errorf("at %d: %s", size, root.Show())
		}
		for size, root := range others {
			if root != rootOf(other[:size]) {
				t.Errorf("of the other at %d: %s", size, root.Show())
			}
		}
	}
}
