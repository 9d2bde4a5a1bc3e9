package lamport_test

import (
	"slices"
	"testing"

	"syngraph/api"
	"syngraph/lamport"
	"syngraph/sha"
	"syngraph/tag"
)

// mustRecover tells what a signature of the right length leads to.
func mustRecover(t *testing.T, h sha.Hash, sig []sha.Hash) sha.Hash {
	t.Helper()
	p, e := lamport.Recover(h, sig)
	if e != api.OK {
		t.Fatalf("Recover of %s: error %d", h.Show(), e)
	}
	return p
}

// P5.2: of a signature it is the public key.
func TestRecover(t *testing.T) {
	for _, seed := range []sha.Hash{{}, hashAt(1), filled(255)} {
		for _, key := range []int{0, 1, 300, 1<<31 - 1} {
			want := mustPublic(t, seed, key)
			for _, h := range hashes() {
				if got := mustRecover(t, h, mustSign(t, seed, key, h)); got != want {
					t.Errorf("Recover at key %d of %s: %s, not %s", key, h.Show(), got.Show(), want.Show())
				}
			}
		}
	}
}

// ledTo reckons by the chapter's words what 512 hashes lead to.
func ledTo(h sha.Hash, sig []sha.Hash) sha.Hash {
	var ends []sha.Hash
	for k, b := range bitsOf(h) {
		shown, other := endOf(sig[2*k], k, b), sig[2*k+1]
		if b == 0 {
			ends = append(ends, shown, other)
		} else {
			ends = append(ends, other, shown)
		}
	}
	return tag.Public(ends)
}

// P5.2: of any 512 hashes it is the sum of what they lead to, whether or not somebody signed.
func TestRecoverOfAnyHashes(t *testing.T) {
	noughts, others := make([]sha.Hash, 512), make([]sha.Hash, 512)
	for i := range others {
		others[i] = hashAt(1000 + i)
	}
	for _, h := range hashes() {
		for _, sig := range [][]sha.Hash{noughts, others} {
			if got, want := mustRecover(t, h, sig), ledTo(h, sig); got != want {
				t.Errorf("Recover of %s: %s, not %s", h.Show(), got.Show(), want.Show())
			}
		}
	}
}

// P5.2: of a signature of another hash it is another key, even where the two differ in one bit.
func TestRecoverOfAnotherHash(t *testing.T) {
	seed, h := hashAt(4), hashAt(5)
	public, sig := mustPublic(t, seed, 3), mustSign(t, seed, 3, h)
	others := hashes()
	for place := range 256 {
		turned := h
		turned[place/8] ^= 1 << (place % 8)
		others = append(others, turned)
	}
	for _, o := range others {
		if o != h && mustRecover(t, o, sig) == public {
			t.Errorf("the signature of %s is taken for one of %s", h.Show(), o.Show())
		}
	}
}

// P5.2: of a signature that was turned in one byte it is another key, at each of its hashes.
func TestRecoverOfTurned(t *testing.T) {
	seed, h := hashAt(6), hashAt(7)
	public, sig := mustPublic(t, seed, 0), mustSign(t, seed, 0, h)
	for i := range sig {
		turned := slices.Clone(sig)
		turned[i][i%32] ^= 1 << (i % 8)
		if mustRecover(t, h, turned) == public {
			t.Errorf("a byte of the hash at %d may be turned", i)
		}
	}
}

// P5.2: of a signature whose hashes stand in another order it is another key, within a bit and between bits.
func TestRecoverOfSwapped(t *testing.T) {
	seed := hashAt(6)
	public := mustPublic(t, seed, 0)
	for _, h := range []sha.Hash{{}, filled(255), hashAt(7)} {
		sig := mustSign(t, seed, 0, h)
		for _, places := range [][2]int{{0, 1}, {0, 2}, {1, 3}, {254, 255}, {0, 510}, {1, 511}, {510, 511}} {
			swapped := slices.Clone(sig)
			swapped[places[0]], swapped[places[1]] = swapped[places[1]], swapped[places[0]]
			if mustRecover(t, h, swapped) == public {
				t.Errorf("the hashes at %v may be swapped", places)
			}
		}
	}
}

// P5.2: another key's signature leads to that key.
func TestRecoverOfAnotherKey(t *testing.T) {
	seed, h := hashAt(8), hashAt(9)
	for _, c := range []struct {
		seed sha.Hash
		key  int
	}{{seed, 4}, {hashAt(10), 3}} {
		got := mustRecover(t, h, mustSign(t, c.seed, c.key, h))
		if got == mustPublic(t, seed, 3) || got != mustPublic(t, c.seed, c.key) {
			t.Errorf("Recover at key %d: %s", c.key, got.Show())
		}
	}
}

// P5.2: of other than 512 hashes: ErrForm, and nothing beside it.
func TestRecoverOfOtherLengths(t *testing.T) {
	sig := mustSign(t, hashAt(1), 1, hashAt(2))
	long := slices.Concat(sig, sig)
	for _, l := range [][]sha.Hash{nil, {}, sig[:1], sig[:2], sig[:67], sig[:256], sig[:510], sig[:511], sig[1:], long[:513], long[:514], long} {
		if p, e := lamport.Recover(hashAt(2), l); e != api.ErrForm || p != (sha.Hash{}) {
			t.Errorf("Recover of %d hashes: %s, error %d", len(l), p.Show(), e)
		}
	}
}
