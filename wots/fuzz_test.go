package wots_test

import (
	"slices"
	"testing"

	"syngraph/api"
	"syngraph/sha"
	"syngraph/wots"
)

// P1 of DOC.md, and P4.1 to P4.3: no call panics, and each tells what the chapter says, whatever it is given.
func FuzzAll(f *testing.F) {
	f.Add(0, 0, 0, 15, []byte(nil), []byte("message"))
	f.Add(1<<31-1, 66, 3, 2, []byte("seed"), []byte(nil))
	f.Add(1<<31, -1, -5, 1<<62, []byte("seed"), []byte("x"))
	f.Add(-1, 67, 16, 15, []byte("a"), []byte("a"))
	f.Fuzz(func(t *testing.T, key, chain, from, to int, b, c []byte) {
		seed, h := sha.Sum(b), sha.Sum(c)
		if !slices.Equal(wots.Digits(h), digitsOf(h)) {
			t.Errorf("Digits of %s: %v", h.Show(), wots.Digits(h))
		}
		if seed != h {
			expectBothWays(t, seed, h)
		}
		walked := wots.Walk(h, chain, from, to)
		if to <= from && walked != h {
			t.Errorf("Walk from %d to %d: %s", from, to, walked.Show())
		}
		if from >= 0 && from < to && to <= 15 && walked != goOn(h, chain, from, to-from) {
			t.Errorf("Walk from %d to %d: %s", from, to, walked.Show())
		}
		public, e := wots.Public(seed, key)
		sig, o := wots.Sign(seed, key, h)
		if key < 0 || key >= 1<<31 {
			if e != api.ErrRange || o != api.ErrRange || public != (sha.Hash{}) || len(sig) != 0 {
				t.Errorf("key %d: errors %d and %d", key, e, o)
			}
			return
		}
		if e != api.OK || o != api.OK || public != publicOf(seed, key) || !slices.Equal(sig, signOf(seed, key, h)) {
			t.Errorf("key %d: errors %d and %d", key, e, o)
		}
		if mustRecover(t, h, sig) != public {
			t.Errorf("key %d: Recover", key)
		}
	})
}

func BenchmarkPublic(b *testing.B) {
	for i := 0; b.Loop(); i++ {
		wots.Public(sha.Hash{}, i%1000)
	}
}
