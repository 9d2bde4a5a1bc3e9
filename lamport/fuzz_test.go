package lamport_test

import (
	"slices"
	"testing"

	"syngraph/api"
	"syngraph/lamport"
	"syngraph/sha"
)

// P1 of DOC.md, and P5.1 and P5.2: no call panics, and each tells what the chapter says, whatever it is given.
func FuzzAll(f *testing.F) {
	f.Add(0, 0, []byte(nil), []byte("message"))
	f.Add(1<<31-1, 511, []byte("seed"), []byte(nil))
	f.Add(1<<31, 512, []byte("seed"), []byte("x"))
	f.Add(-1, 513, []byte("a"), []byte("a"))
	f.Fuzz(func(t *testing.T, key, length int, b, c []byte) {
		seed, h := sha.Sum(b), sha.Sum(c)
		expectBits(t, h, bitsOf(h))
		given := slices.Repeat([]sha.Hash{seed, h}, 300)[:min(max(length, 0), 600)]
		led, e := lamport.Recover(h, given)
		if len(given) == 512 && (e != api.OK || led != ledTo(h, given)) {
			t.Errorf("Recover of 512 hashes: error %d", e)
		}
		if len(given) != 512 && (e != api.ErrForm || led != sha.Hash{}) {
			t.Errorf("Recover of %d hashes: error %d", len(given), e)
		}
		public, e := lamport.Public(seed, key)
		sig, o := lamport.Sign(seed, key, h)
		if key < 0 || key >= 1<<31 {
			if e != api.ErrRange || o != api.ErrRange || public != (sha.Hash{}) || len(sig) != 0 {
				t.Errorf("key %d: errors %d and %d", key, e, o)
			}
			return
		}
		if e != api.OK || o != api.OK || public != publicOf(seed, key) || !slices.Equal(sig, signOf(seed, key, h)) {
			t.Errorf("key %d: errors %d and %d", key, e, o)
		}
		if mustRecover(t, h, sig) != public {
			t.Errorf("key %d: Recover", key)
		}
	})
}

func BenchmarkPublic(b *testing.B) {
	for i := 0; b.Loop(); i++ {
		lamport.Public(sha.Hash{}, i%1000)
	}
}
