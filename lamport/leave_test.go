package lamport

import (
	"testing"

	"syngraph/sha"
)

// P5.1, and P1 of DOC.md: who goes through the bits may leave at any of them, and none comes behind it.
func TestBitsAreLeft(t *testing.T) {
	for _, last := range []int{0, 1, 7, 8, 254, 255} {
		count := 0
		for place, bit := range bitsOf(sha.Hash{160}) {
			if place != count || (bit == 1) != (place == 0 || place == 2) {
				t.Errorf("the bit %d at %d", bit, place)
			}
			count++
			if place == last {
				break
			}
		}
		if count != last+1 {
			t.Errorf("left at %d: %d bits", last, count)
		}
	}
}
