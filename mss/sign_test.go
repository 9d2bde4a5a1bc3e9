package mss_test

import (
	"slices"
	"testing"

	"syngraph/api"
	"syngraph/mss"
	"syngraph/sha"
)

// messageAt tells another message for each i, the first one with no bytes.
func messageAt(i int) []byte {
	return slices.Repeat([]byte{byte(i), 7}, i)
}

// mustSign tells a signature that the test needs.
func mustSign(t *testing.T, k *mss.Key, msg []byte) mss.Signature {
	t.Helper()
	s, e := k.Sign(msg)
	if e != api.OK {
		t.Fatalf("Sign at %d: error %d", k.Next(), e)
	}
	return s
}

// expectSignature tells the test where a signature isn't what the chapter's words give.
func expectSignature(t *testing.T, s mss.Signature, seed sha.Hash, kind, height, index int, msg []byte) {
	t.Helper()
	if s.Kind != kind || s.Index != index {
		t.Errorf("kind %d and index %d, not %d and %d", s.Kind, s.Index, kind, index)
	}
	if !slices.Equal(s.Parts, partsOf(t, seed, kind, index, msg)) {
		t.Errorf("kind %d, height %d, index %d: the parts are others", kind, height, index)
	}
	if !slices.Equal(s.Path, pathOf(t, seed, kind, height, index)) {
		t.Errorf("kind %d, height %d, index %d: the path is another", kind, height, index)
	}
}

// expectExhausted tells the test where a key signs with no index left, or is changed by being asked.
func expectExhausted(t *testing.T, k *mss.Key, height int) {
	t.Helper()
	public := k.Public()
	for _, msg := range [][]byte{nil, {}, messageAt(1), messageAt(300)} {
		s, e := k.Sign(msg)
		if e != api.ErrExhausted || s.Kind != 0 || s.Index != 0 || len(s.Parts) != 0 || len(s.Path) != 0 {
			t.Errorf("height %d: Sign with no index left: error %d, %d parts", height, e, len(s.Parts))
		}
		expectState(t, k, height, 1<<height)
	}
	if k.Public() != public {
		t.Errorf("height %d: the public key was changed", height)
	}
}

// P6.2 and P6.1: signatures one by one till there is none left, each by the next index; then ErrExhausted, again and again.
func TestSignAll(t *testing.T) {
	for kind := 1; kind <= 2; kind++ {
		for height := range 5 {
			k := mustNew(t, mainSeed, kind, height)
			for index := range 1 << height {
				expectState(t, k, height, index)
				s := mustSign(t, k, messageAt(index))
				expectSignature(t, s, mainSeed, kind, height, index, messageAt(index))
				expectState(t, k, height, index+1)
			}
			expectExhausted(t, k, height)
			if k.Public() != publicOf(t, mainSeed, kind, height) {
				t.Errorf("kind %d, height %d: the public key was changed by signing", kind, height)
			}
		}
	}
}

// P6.2: the greatest heights, at some of their indexes.
func TestSignAtGreatHeights(t *testing.T) {
	for kind := 1; kind <= 2; kind++ {
		for _, c := range [][2]int{{5, 21}, {6, 32}, {7, 0}, {7, 127}, {8, 0}, {8, 170}, {8, 255}} {
			k := mustRestore(t, mainSeed, kind, c[0], c[1])
			s := mustSign(t, k, messageAt(3))
			expectSignature(t, s, mainSeed, kind, c[0], c[1], messageAt(3))
			expectState(t, k, c[0], c[1]+1)
		}
		expectExhausted(t, mustRestore(t, mainSeed, kind, 6, 64), 6)
	}
}

// P6.2: one message many times, and no message: each signature has an index of its own.
func TestSignOneMessage(t *testing.T) {
	for kind := 1; kind <= 2; kind++ {
		for _, msg := range [][]byte{nil, {}, []byte("message")} {
			k := mustNew(t, hashAt(4), kind, 2)
			for index := range 4 {
				expectSignature(t, mustSign(t, k, msg), hashAt(4), kind, 2, index, msg)
			}
			expectExhausted(t, k, 2)
		}
	}
}

// P6.2: a key that is restored at another one's next index signs as that would have.
func TestRestoredSigns(t *testing.T) {
	for kind := 1; kind <= 2; kind++ {
		for next := range 8 {
			k := mustNew(t, mainSeed, kind, 3)
			for range next {
				mustSign(t, k, []byte("ahead"))
			}
			r := mustRestore(t, mainSeed, kind, 3, k.Next())
			for k.Left() > 0 {
				msg := messageAt(k.Next())
				if !mustSign(t, k, msg).Equal(mustSign(t, r, msg)) || k.Next() != r.Next() {
					t.Errorf("kind %d: the key that was restored at %d signs otherwise ahead of %d", kind, next, k.Next())
				}
			}
			expectExhausted(t, r, 3)
		}
	}
}

// P6.2: two keys of one seed go on by themselves.
func TestKeysAreApart(t *testing.T) {
	first, second := mustNew(t, mainSeed, 1, 2), mustNew(t, mainSeed, 1, 2)
	mustSign(t, first, nil)
	mustSign(t, first, nil)
	expectState(t, first, 2, 2)
	expectState(t, second, 2, 0)
	expectSignature(t, mustSign(t, second, nil), mainSeed, 1, 2, 0, nil)
}
