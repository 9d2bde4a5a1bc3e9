package lamport_test

import (
	"slices"
	"testing"

	"syngraph/api"
	"syngraph/lamport"
	"syngraph/sha"
)

// P5.3: what is handed in, its spare room too, is the same behind each call.
func TestHandedInNotChanged(t *testing.T) {
	whole := slices.Repeat(mustSign(t, hashAt(1), 1, hashAt(2)), 2)
	before := slices.Clone(whole)
	seed, h := hashAt(1), hashAt(2)
	for _, n := range []int{0, 1, 511, 512, 513} {
		lamport.Recover(h, whole[:n])
		if !slices.Equal(whole, before) {
			t.Fatalf("Recover of %d hashes changed them, or what is behind them", n)
		}
	}
	lamport.Bits(h)
	lamport.Public(seed, 1)
	lamport.Sign(seed, 1, h)
	if seed != hashAt(1) || h != hashAt(2) {
		t.Errorf("a hash that was handed in was changed")
	}
}

// P5.3: changing what was handed in changes nothing that was told, or is told later.
func TestHandedInNotKept(t *testing.T) {
	seed, h := hashAt(1), hashAt(2)
	public := mustPublic(t, seed, 1)
	sig, bits := mustSign(t, seed, 1, h), lamport.Bits(h)
	handed := slices.Clone(sig)
	told := mustRecover(t, h, handed)
	clear(handed)
	clear(seed[:])
	clear(h[:])
	if told != public || mustRecover(t, hashAt(2), sig) != public {
		t.Errorf("Recover kept what was handed in")
	}
	if !slices.Equal(sig, signOf(hashAt(1), 1, hashAt(2))) || !slices.Equal(bits, bitsOf(hashAt(2))) {
		t.Errorf("Sign or Bits kept what was handed in")
	}
	if mustRecover(t, hashAt(2), handed) == public {
		t.Errorf("Recover goes by what was handed in earlier")
	}
}

// P5.3: what Bits and Sign told is the caller's own, its spare room too: filling it changes nothing that is told later.
func TestToldIsNew(t *testing.T) {
	h := hashAt(2)
	bits, others := lamport.Bits(h), lamport.Bits(h)
	bits = bits[:cap(bits)]
	for i := range bits {
		bits[i] = -1
	}
	if !slices.Equal(others, bitsOf(h)) || !slices.Equal(lamport.Bits(h), bitsOf(h)) {
		t.Errorf("changing bits changed other ones")
	}
	sig, other := mustSign(t, hashAt(1), 1, h), mustSign(t, hashAt(1), 1, h)
	want := signOf(hashAt(1), 1, h)
	clear(sig[:cap(sig)])
	if !slices.Equal(other, want) || !slices.Equal(mustSign(t, hashAt(1), 1, h), want) {
		t.Errorf("changing a signature changed another one")
	}
	if mustRecover(t, h, other) != publicOf(hashAt(1), 1) {
		t.Errorf("changing bits or a signature changed what Recover tells")
	}
}

// P5.3 and the rule that nothing is kept: a call's answer doesn't hang on those ahead of it, refused ones among them.
func TestNothingIsKept(t *testing.T) {
	seed, h := hashAt(1), hashAt(2)
	want := publicOf(seed, 5)
	for range 3 {
		sig := mustSign(t, seed, 5, h)
		if !slices.Equal(sig, signOf(seed, 5, h)) || mustPublic(t, seed, 5) != want || mustRecover(t, h, sig) != want {
			t.Errorf("a call tells something else at another time")
		}
		lamport.Public(seed, -1)
		lamport.Sign(hashAt(3), 1<<31, hashAt(4))
		if _, e := lamport.Recover(hashAt(4), sig[1:]); e != api.ErrForm {
			t.Errorf("Recover of 511 hashes: error %d", e)
		}
		mustSign(t, hashAt(3), 6, sha.Hash{})
	}
}
