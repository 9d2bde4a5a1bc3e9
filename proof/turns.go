package proof

import (
	"math/bits"
	"slices"
)

// pathTurns tells, for each split above the leaf i of n, from the lowest up, whether it is in the left half.
func pathTurns(i, n int) []bool {
	var lefts []bool
	for n > 1 {
		var left bool
		left, i, n = half(i, n)
		lefts = append(lefts, left)
	}
	slices.Reverse(lefts)
	return lefts
}

// proofTurns tells, for each split above the part of n that the first m end with, from the lowest up, whether that is in the left half. Of none and of all there is no such split.
func proofTurns(m, n int) []bool {
	if m == 0 {
		return nil
	}
	var lefts []bool
	last := m - 1
	for last < n-1 {
		var left bool
		left, last, n = half(last, n)
		lefts = append(lefts, left)
	}
	slices.Reverse(lefts)
	return lefts
}

// half tells of n leaves, at least two, in which half the leaf i is: whether in the left one, which leaf of it, and how many it has.
func half(i, n int) (left bool, inner, size int) {
	k := split(n)
	if i < k {
		return true, i, k
	}
	return false, i - k, n - k
}

// split tells where n leaves, at least two, are parted. Layer 7 tells it too, but this layer doesn't lean on that one.
func split(n int) int {
	return 1 << (bits.Len(uint(n-1)) - 1)
}
