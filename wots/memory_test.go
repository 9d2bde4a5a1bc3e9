package wots_test

import (
	"slices"
	"testing"

	"syngraph/api"
	"syngraph/sha"
	"syngraph/wots"
)

// P4.4: what is handed in, its spare room too, is the same behind each call.
func TestHandedInNotChanged(t *testing.T) {
	whole := slices.Repeat(mustSign(t, hashAt(1), 1, hashAt(2)), 2)
	first := slices.Clone(whole)
	seed, h := hashAt(1), hashAt(2)
	for _, n := range []int{0, 1, 66, 67, 68} {
		wots.Recover(h, whole[:n])
		if !slices.Equal(whole, first) {
			t.Fatalf("Recover of %d hashes changed them, or what is behind them", n)
		}
	}
	wots.Digits(h)
	wots.Public(seed, 1)
	wots.Sign(seed, 1, h)
	wots.Walk(h, 1, 2, 9)
	if seed != hashAt(1) || h != hashAt(2) {
		t.Errorf("a hash that was handed in was changed")
	}
}

// P4.4: changing what was handed in changes nothing that was told, or is told later.
func TestHandedInNotKept(t *testing.T) {
	seed, h := hashAt(1), hashAt(2)
	public := mustPublic(t, seed, 1)
	sig := mustSign(t, seed, 1, h)
	handed := slices.Clone(sig)
	first := mustRecover(t, h, handed)
	clear(handed)
	clear(seed[:])
	clear(h[:])
	if first != public || mustRecover(t, hashAt(2), sig) != public {
		t.Errorf("Recover kept what was handed in")
	}
	if !slices.Equal(sig, signOf(hashAt(1), 1, hashAt(2))) {
		t.Errorf("Sign kept what was handed in")
	}
	if mustRecover(t, hashAt(2), handed) == public {
		t.Errorf("Recover goes by what was handed in earlier")
	}
}

// P4.4: what Digits and Sign told is the caller's own, its spare room too: filling it changes nothing that is told later.
func TestToldIsNew(t *testing.T) {
	h := hashAt(2)
	digits, others := wots.Digits(h), wots.Digits(h)
	digits = digits[:cap(digits)]
	for i := range digits {
		digits[i] = -1
	}
	if !slices.Equal(others, digitsOf(h)) || !slices.Equal(wots.Digits(h), digitsOf(h)) {
		t.Errorf("changing digits changed other ones")
	}
	sig, other := mustSign(t, hashAt(1), 1, h), mustSign(t, hashAt(1), 1, h)
	want := signOf(hashAt(1), 1, h)
	clear(sig[:cap(sig)])
	if !slices.Equal(other, want) || !slices.Equal(mustSign(t, hashAt(1), 1, h), want) {
		t.Errorf("changing a signature changed another one")
	}
	if mustRecover(t, h, other) != publicOf(hashAt(1), 1) {
		t.Errorf("changing digits or a signature changed what Recover tells")
	}
}

// P4.4 and the rule that nothing is kept: a call's answer doesn't hang on those ahead of it, refused ones among them.
func TestNothingIsKept(t *testing.T) {
	seed, h := hashAt(1), hashAt(2)
	want := publicOf(seed, 5)
	for range 3 {
		sig := mustSign(t, seed, 5, h)
		if !slices.Equal(sig, signOf(seed, 5, h)) || mustPublic(t, seed, 5) != want || mustRecover(t, h, sig) != want {
			t.Errorf("a call tells something else at another time")
		}
		wots.Public(seed, -1)
		wots.Sign(hashAt(3), 1<<31, hashAt(4))
		if _, e := wots.Recover(hashAt(4), sig[1:]); e != api.ErrForm {
			t.Errorf("Recover of 66 hashes: error %d", e)
		}
		mustSign(t, hashAt(3), 6, sha.Hash{})
	}
}
