package lamport_test

import (
	"math"
	"slices"
	"testing"

	"syngraph/api"
	"syngraph/lamport"
	"syngraph/sha"
	"syngraph/tag"
)

// filled tells a hash whose bytes are all b.
func filled(b byte) sha.Hash {
	var h sha.Hash
	for i := range h {
		h[i] = b
	}
	return h
}

// hashAt tells another hash for each i.
func hashAt(i int) sha.Hash {
	return sha.Sum([]byte{byte(i), byte(i >> 8), byte(i >> 16)})
}

// hashes tells the hash of noughts, the one of nothing but 255, and several between.
func hashes() []sha.Hash {
	l := []sha.Hash{{}, filled(255), filled(0x0f), filled(0xaa), filled(0x55), {160}, {0x80}, {1}, {31: 0x80}, {31: 1}}
	for i := range 10 {
		l = append(l, hashAt(i))
	}
	return l
}

// bitsOf reckons the bits by dividing each byte by what its bits stand for, from 128 down to 1.
func bitsOf(h sha.Hash) []int {
	var l []int
	for _, b := range h {
		for _, worth := range []int{128, 64, 32, 16, 8, 4, 2, 1} {
			l = append(l, int(b)/worth%2)
		}
	}
	return l
}

// secretOf and endOf reckon by layer 2 what the chapter's words give for the bit b at the place k.
func secretOf(seed sha.Hash, key, k, b int) sha.Hash {
	return tag.Secret(seed, key, 67+2*k+b)
}

func endOf(secret sha.Hash, k, b int) sha.Hash {
	return tag.Chain(secret, 67+k, b)
}

// publicOf and signOf reckon what the chapter's words give by layer 2.
func publicOf(seed sha.Hash, key int) sha.Hash {
	var ends []sha.Hash
	for k := 0; k < 256; k++ {
		ends = append(ends, endOf(secretOf(seed, key, k, 0), k, 0), endOf(secretOf(seed, key, k, 1), k, 1))
	}
	return tag.Public(ends)
}

func signOf(seed sha.Hash, key int, h sha.Hash) []sha.Hash {
	var sig []sha.Hash
	for k, b := range bitsOf(h) {
		if b == 0 {
			sig = append(sig, secretOf(seed, key, k, 0), endOf(secretOf(seed, key, k, 1), k, 1))
		} else {
			sig = append(sig, secretOf(seed, key, k, 1), endOf(secretOf(seed, key, k, 0), k, 0))
		}
	}
	return sig
}

// mustSign tells a signature that the test needs.
func mustSign(t *testing.T, seed sha.Hash, key int, h sha.Hash) []sha.Hash {
	t.Helper()
	sig, e := lamport.Sign(seed, key, h)
	if e != api.OK || len(sig) != lamport.Parts {
		t.Fatalf("Sign at key %d: %d hashes, error %d", key, len(sig), e)
	}
	return sig
}

// mustPublic tells a public key that the test needs.
func mustPublic(t *testing.T, seed sha.Hash, key int) sha.Hash {
	t.Helper()
	p, e := lamport.Public(seed, key)
	if e != api.OK {
		t.Fatalf("Public at key %d: error %d", key, e)
	}
	return p
}

// expectBits tells the test where the bits of a hash are others.
func expectBits(t *testing.T, h sha.Hash, want []int) {
	t.Helper()
	if got := lamport.Bits(h); !slices.Equal(got, want) {
		t.Errorf("Bits of %s: %v, not %v", h.Show(), got, want)
	}
}

// P5.1: the chapter's example, the ends, and bits that change from each place to the next.
func TestBitsOfExamples(t *testing.T) {
	if lamport.Parts != 512 {
		t.Errorf("Parts: %d", lamport.Parts)
	}
	expectBits(t, sha.Hash{160}, append([]int{1, 0, 1, 0, 0, 0, 0, 0}, make([]int, 248)...))
	expectBits(t, sha.Hash{}, make([]int, 256))
	expectBits(t, filled(255), slices.Repeat([]int{1}, 256))
	expectBits(t, filled(0xaa), slices.Repeat([]int{1, 0}, 128))
	expectBits(t, filled(0x55), slices.Repeat([]int{0, 1}, 128))
	expectBits(t, filled(0x0f), slices.Repeat([]int{0, 0, 0, 0, 1, 1, 1, 1}, 32))
}

// P5.1: each bit has its own place, from the first byte on, the highest bit first.
func TestBitsAtEachPlace(t *testing.T) {
	worths := []byte{128, 64, 32, 16, 8, 4, 2, 1}
	for place := range 256 {
		var h sha.Hash
		h[place/8] = worths[place%8]
		want := make([]int, 256)
		want[place] = 1
		expectBits(t, h, want)
	}
}

// P5.1: the bits by the chapter's words.
func TestBits(t *testing.T) {
	for _, h := range hashes() {
		expectBits(t, h, bitsOf(h))
	}
}

// keys are the least number of a key, the greatest one, and several between.
func keys() []int {
	return []int{0, 1, 2, 255, 256, 1<<16 + 1, 1 << 30, 1<<31 - 2, 1<<31 - 1}
}

// noKeys are the numbers around the keys' bounds, and the bounds of int.
func noKeys() []int {
	return []int{-1, -2, -1 << 31, math.MinInt, 1 << 31, 1<<31 + 1, 1 << 32, 1<<32 + 5, math.MaxInt}
}

// P5.1: the public key by the chapter's words.
func TestPublic(t *testing.T) {
	for _, seed := range []sha.Hash{{}, hashAt(1), hashAt(2)} {
		for _, key := range keys() {
			p, e := lamport.Public(seed, key)
			if e != api.OK || p != publicOf(seed, key) {
				t.Errorf("Public at key %d: %s, error %d", key, p.Show(), e)
			}
		}
	}
}

// P5.1: no two seeds and no two numbers have one public key.
func TestPublicsDiffer(t *testing.T) {
	var all []sha.Hash
	for _, seed := range []sha.Hash{{}, hashAt(1)} {
		for _, key := range keys() {
			p := mustPublic(t, seed, key)
			if slices.Contains(all, p) {
				t.Errorf("the public key at %d is another one's", key)
			}
			all = append(all, p)
		}
	}
}

// P5.1: the signature by the chapter's words.
func TestSign(t *testing.T) {
	for _, key := range keys() {
		for _, h := range []sha.Hash{{}, filled(255), hashAt(key % 1000)} {
			sig, e := lamport.Sign(hashAt(3), key, h)
			if e != api.OK || !slices.Equal(sig, signOf(hashAt(3), key, h)) {
				t.Errorf("Sign of %s at key %d: error %d", h.Show(), key, e)
			}
		}
	}
	for _, h := range hashes() {
		sig, e := lamport.Sign(sha.Hash{}, 7, h)
		if e != api.OK || !slices.Equal(sig, signOf(sha.Hash{}, 7, h)) {
			t.Errorf("Sign of %s: error %d", h.Show(), e)
		}
	}
}

// P5.1: of each pair one secret is shown, and the other one is not.
func TestSignShowsOneOfTwo(t *testing.T) {
	seed, h := hashAt(4), hashAt(5)
	sig := mustSign(t, seed, 9, h)
	for k, b := range bitsOf(h) {
		if !slices.Contains(sig, secretOf(seed, 9, k, b)) {
			t.Errorf("the secret of the bit at %d is not shown", k)
		}
		if slices.Contains(sig, secretOf(seed, 9, k, 1-b)) {
			t.Errorf("the secret of the other bit at %d is shown", k)
		}
	}
}

// P5.1: a number that is no key's: ErrRange, and nothing beside it.
func TestNoKey(t *testing.T) {
	for _, key := range noKeys() {
		if p, e := lamport.Public(hashAt(1), key); e != api.ErrRange || p != (sha.Hash{}) {
			t.Errorf("Public at key %d: %s, error %d", key, p.Show(), e)
		}
		if sig, e := lamport.Sign(hashAt(1), key, hashAt(2)); e != api.ErrRange || len(sig) != 0 {
			t.Errorf("Sign at key %d: %d hashes, error %d", key, len(sig), e)
		}
	}
}
