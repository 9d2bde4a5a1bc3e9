package wots_test

import (
	"slices"
	"testing"

	"syngraph/api"
	"syngraph/sha"
	"syngraph/tag"
	"syngraph/wots"
)

// mustRecover tells what a signature of the right length leads to.
func mustRecover(t *testing.T, h sha.Hash, sig []sha.Hash) sha.Hash {
	t.Helper()
	p, e := wots.Recover(h, sig)
	if e != api.OK {
		t.Fatalf("Recover of %s: error %d", h.Show(), e)
	}
	return p
}

// P4.3: of a signature it is the public key.
func TestRecover(t *testing.T) {
	for _, seed := range []sha.Hash{{}, hashAt(1), filled(255)} {
		for _, key := range []int{0, 1, 300, 1<<31 - 1} {
			want := mustPublic(t, seed, key)
			for _, h := range hashes() {
				if got := mustRecover(t, h, mustSign(t, seed, key, h)); got != want {
					t.Errorf("Recover at key %d of %s: %s, not %s", key, h.Show(), got.Show(), want.Show())
				}
			}
		}
	}
}

// ledTo reckons by the chapter's words what 67 hashes lead to.
func ledTo(h sha.Hash, sig []sha.Hash) sha.Hash {
	var ends []sha.Hash
	for c, digit := range digitsOf(h) {
		ends = append(ends, goOn(sig[c], c, digit, 15-digit))
	}
	return tag.Public(ends)
}

// P4.3: of any 67 hashes it is the sum of the ends that they lead to, whether or not somebody signed.
func TestRecoverOfAnyHashes(t *testing.T) {
	noughts, others := make([]sha.Hash, 67), make([]sha.Hash, 67)
	for c := range others {
		others[c] = hashAt(1000 + c)
	}
	for _, h := range hashes() {
		for _, sig := range [][]sha.Hash{noughts, others} {
			if got, want := mustRecover(t, h, sig), ledTo(h, sig); got != want {
				t.Errorf("Recover of %s: %s, not %s", h.Show(), got.Show(), want.Show())
			}
		}
	}
}

// P4.3: of a signature of another hash it is another key, even where the two differ in one half of a byte.
func TestRecoverOfAnotherHash(t *testing.T) {
	seed, h := hashAt(4), hashAt(5)
	public, sig := mustPublic(t, seed, 3), mustSign(t, seed, 3, h)
	others := hashes()
	for place := range h {
		higher, lower := h, h
		higher[place] ^= 0x10
		lower[place] ^= 0x01
		others = append(others, higher, lower)
	}
	for _, o := range others {
		if o != h && mustRecover(t, o, sig) == public {
			t.Errorf("the signature of %s is taken for one of %s", h.Show(), o.Show())
		}
	}
}

// P4.3: of a signature that was turned in one byte it is another key, at each of its hashes.
func TestRecoverOfTurned(t *testing.T) {
	seed := hashAt(6)
	public := mustPublic(t, seed, 0)
	for _, h := range []sha.Hash{{}, filled(255), hashAt(7)} {
		sig := mustSign(t, seed, 0, h)
		for chain := range sig {
			turned := slices.Clone(sig)
			turned[chain][chain%32] ^= 1 << (chain % 8)
			if mustRecover(t, h, turned) == public {
				t.Errorf("a byte of the hash at %d may be turned", chain)
			}
		}
		swapped := slices.Clone(sig)
		swapped[0], swapped[66] = swapped[66], swapped[0]
		if mustRecover(t, h, swapped) == public {
			t.Errorf("two hashes may be swapped")
		}
	}
}

// P4.3: another key's signature leads to that key.
func TestRecoverOfAnotherKey(t *testing.T) {
	seed, h := hashAt(8), hashAt(9)
	for _, c := range []struct {
		seed sha.Hash
		key  int
	}{{seed, 4}, {hashAt(10), 3}} {
		got := mustRecover(t, h, mustSign(t, c.seed, c.key, h))
		if got == mustPublic(t, seed, 3) || got != mustPublic(t, c.seed, c.key) {
			t.Errorf("Recover at key %d: %s", c.key, got.Show())
		}
	}
}

// P4.3: of other than 67 hashes: ErrForm, and nothing beside it.
func TestRecoverOfOtherLengths(t *testing.T) {
	sig := mustSign(t, hashAt(1), 1, hashAt(2))
	long := slices.Concat(sig, sig, sig)
	for _, l := range [][]sha.Hash{nil, {}, sig[:1], sig[:64], sig[:66], sig[1:], long[:68], long[:134], long} {
		if p, e := wots.Recover(hashAt(2), l); e != api.ErrForm || p != (sha.Hash{}) {
			t.Errorf("Recover of %d hashes: %s, error %d", len(l), p.Show(), e)
		}
	}
}
