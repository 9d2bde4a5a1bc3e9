package wots_test

import (
	"math"
	"slices"
	"testing"

	"syngraph/api"
	"syngraph/sha"
	"syngraph/tag"
	"syngraph/wots"
)

// filled tells a hash whose bytes are all b.
func filled(b byte) sha.Hash {
	var h sha.Hash
	for i := range h {
		h[i] = b
	}
	return h
}

// hashAt tells another hash for each i.
func hashAt(i int) sha.Hash {
	return sha.Sum([]byte{byte(i), byte(i >> 8), byte(i >> 16)})
}

// hashes tells the hash of noughts, the one of nothing but 255, and several between.
func hashes() []sha.Hash {
	l := []sha.Hash{{}, filled(255), filled(0x0f), filled(0xf0), filled(0x77), {0x1f, 31: 0xa0}, {1}, {31: 1}}
	for i := range 12 {
		l = append(l, hashAt(i))
	}
	return l
}

// digitsOf reckons the digits by the text of a hash, which has one sign for each half of a byte.
func digitsOf(h sha.Hash) []int {
	var l []int
	rest := 0
	for _, sign := range h.Show() {
		digit := slices.Index([]rune("0123456789abcdef"), sign)
		l = append(l, digit)
		rest += 15 - digit
	}
	return append(l, rest/256, rest/16%16, rest%16)
}

// goOn goes on from a hash at the step from of a chain, by the given count of steps.
func goOn(h sha.Hash, chain, from, count int) sha.Hash {
	if count == 0 {
		return h
	}
	return goOn(tag.Chain(h, chain, from), chain, from+1, count-1)
}

// publicOf and signOf reckon what the chapter's words give by layer 2.
func publicOf(seed sha.Hash, key int) sha.Hash {
	var ends []sha.Hash
	for c := 0; c < 67; c++ {
		ends = append(ends, goOn(tag.Secret(seed, key, c), c, 0, 15))
	}
	return tag.Public(ends)
}

func signOf(seed sha.Hash, key int, h sha.Hash) []sha.Hash {
	var sig []sha.Hash
	for c, digit := range digitsOf(h) {
		sig = append(sig, goOn(tag.Secret(seed, key, c), c, 0, digit))
	}
	return sig
}

// mustSign tells a signature that the test needs.
func mustSign(t *testing.T, seed sha.Hash, key int, h sha.Hash) []sha.Hash {
	t.Helper()
	sig, e := wots.Sign(seed, key, h)
	if e != api.OK || len(sig) != wots.Chains {
		t.Fatalf("Sign at key %d: %d hashes, error %d", key, len(sig), e)
	}
	return sig
}

// mustPublic tells a public key that the test needs.
func mustPublic(t *testing.T, seed sha.Hash, key int) sha.Hash {
	t.Helper()
	p, e := wots.Public(seed, key)
	if e != api.OK {
		t.Fatalf("Public at key %d: error %d", key, e)
	}
	return p
}

// P4.1: there are 67 chains, and the chapter's example and the other end of it: 64 times 15, and nothing is left.
func TestDigitsAtTheEnds(t *testing.T) {
	if wots.Chains != 67 {
		t.Errorf("Chains: %d", wots.Chains)
	}
	for _, c := range []struct {
		name string
		h    sha.Hash
		half int
		more []int
	}{
		{"noughts", sha.Hash{}, 0, []int{3, 12, 0}},
		{"255", filled(255), 15, []int{0, 0, 0}},
		{"119", filled(0x77), 7, []int{2, 0, 0}},
		{"238", filled(0xee), 14, []int{0, 4, 0}},
		{"17", filled(0x11), 1, []int{3, 8, 0}},
	} {
		want := append(slices.Repeat([]int{c.half}, 64), c.more...)
		if got := wots.Digits(c.h); !slices.Equal(got, want) {
			t.Errorf("Digits of %s: %v, not %v", c.name, got, want)
		}
	}
}

// P4.1: the higher half of a byte comes first, and the bytes from the first one on.
func TestDigitsInOrder(t *testing.T) {
	var h sha.Hash
	var want []int
	for i := range h {
		higher, lower := i%16, (i*7+3)%16
		h[i] = byte(higher*16 + lower)
		want = append(want, higher, lower)
	}
	if got := wots.Digits(h); len(got) != 67 || !slices.Equal(got[:64], want) {
		t.Errorf("Digits of %s: %v, not %v", h.Show(), got, want)
	}
}

// P4.1: the digits by the chapter's words, each from 0 to 15.
func TestDigits(t *testing.T) {
	for _, h := range hashes() {
		got := wots.Digits(h)
		if !slices.Equal(got, digitsOf(h)) {
			t.Errorf("Digits of %s: %v, not %v", h.Show(), got, digitsOf(h))
		}
		for i, digit := range got {
			if digit < 0 || digit > 15 {
				t.Errorf("Digits of %s: %d at %d", h.Show(), digit, i)
			}
		}
	}
}

// hasLess tells whether a digit of a is less than the one of b at its place.
func hasLess(a, b []int) bool {
	for i := range a {
		if a[i] < b[i] {
			return true
		}
	}
	return false
}

// expectBothWays tells the test where one of two hashes has no digit that is less.
func expectBothWays(t *testing.T, a, b sha.Hash) {
	t.Helper()
	da, db := wots.Digits(a), wots.Digits(b)
	if len(da) != 67 || len(db) != 67 || !hasLess(da, db) || !hasLess(db, da) {
		t.Errorf("of %s and %s one has no digit that is less: %v, %v", a.Show(), b.Show(), da, db)
	}
}

// P4.1: of two hashes that differ each has a digit that is less.
func TestEachHasLess(t *testing.T) {
	l := hashes()
	for i, a := range l {
		for _, b := range l[:i] {
			expectBothWays(t, a, b)
		}
	}
}

// P4.1: so too where they differ in one half of a byte alone, by whatever it is.
func TestEachHasLessInOneHalf(t *testing.T) {
	for _, h := range []sha.Hash{{}, filled(255), filled(0x5a), hashAt(1)} {
		for place := range h {
			for turn := 1; turn < 16; turn++ {
				higher, lower := h, h
				higher[place] ^= byte(turn << 4)
				lower[place] ^= byte(turn)
				expectBothWays(t, h, higher)
				expectBothWays(t, h, lower)
				expectBothWays(t, higher, lower)
			}
		}
	}
}

// keys are the least number of a key, the greatest one, and several between.
func keys() []int {
	return []int{0, 1, 2, 255, 256, 1<<16 + 1, 1 << 30, 1<<31 - 2, 1<<31 - 1}
}

// noKeys are the numbers around the keys' bounds, and the bounds of int.
func noKeys() []int {
	return []int{-1, -2, -1 << 31, math.MinInt, 1 << 31, 1<<31 + 1, 1 << 32, 1<<32 + 5, math.MaxInt}
}

// P4.2: the public key by the chapter's words.
func TestPublic(t *testing.T) {
	for _, seed := range []sha.Hash{{}, hashAt(1), hashAt(2)} {
		for _, key := range keys() {
			p, e := wots.Public(seed, key)
			if e != api.OK || p != publicOf(seed, key) {
				t.Errorf("Public at key %d: %s, error %d", key, p.Show(), e)
			}
		}
	}
}

// P4.2: no two seeds and no two numbers have one public key.
func TestPublicsDiffer(t *testing.T) {
	var all []sha.Hash
	for _, seed := range []sha.Hash{{}, hashAt(1)} {
		for _, key := range keys() {
			p := mustPublic(t, seed, key)
			if slices.Contains(all, p) {
				t.Errorf("the public key at %d is another one's", key)
			}
			all = append(all, p)
		}
	}
}

// P4.2: the signature by the chapter's words.
func TestSign(t *testing.T) {
	for _, key := range keys() {
		for _, h := range []sha.Hash{{}, filled(255), hashAt(key % 1000)} {
			sig, e := wots.Sign(hashAt(3), key, h)
			if e != api.OK || !slices.Equal(sig, signOf(hashAt(3), key, h)) {
				t.Errorf("Sign of %s at key %d: error %d", h.Show(), key, e)
			}
		}
	}
	for _, h := range hashes() {
		sig, e := wots.Sign(sha.Hash{}, 7, h)
		if e != api.OK || !slices.Equal(sig, signOf(sha.Hash{}, 7, h)) {
			t.Errorf("Sign of %s: error %d", h.Show(), e)
		}
	}
}

// P4.2: a number that is no key's: ErrRange, and nothing beside it.
func TestNoKey(t *testing.T) {
	for _, key := range noKeys() {
		if p, e := wots.Public(hashAt(1), key); e != api.ErrRange || p != (sha.Hash{}) {
			t.Errorf("Public at key %d: %s, error %d", key, p.Show(), e)
		}
		if sig, e := wots.Sign(hashAt(1), key, hashAt(2)); e != api.ErrRange || len(sig) != 0 {
			t.Errorf("Sign at key %d: %d hashes, error %d", key, len(sig), e)
		}
	}
}

// P4.2: every way there is on a chain, of no step, of one, of all fifteen and between, and back.
func TestWalk(t *testing.T) {
	for _, chain := range []int{0, 1, 5, 63, 64, 65, 66} {
		for from := range 16 {
			for to := range 16 {
				h := hashAt(chain*16 + from)
				got, want := wots.Walk(h, chain, from, to), goOn(h, chain, from, max(to-from, 0))
				if got != want {
					t.Errorf("Walk on chain %d from %d to %d: %s, not %s", chain, from, to, got.Show(), want.Show())
				}
			}
		}
	}
}

// P4.2: no step is h itself, and so is a way back; a step is layer 2's Chain.
func TestWalkOfFewSteps(t *testing.T) {
	h := hashAt(9)
	for _, way := range [][2]int{{0, 0}, {7, 7}, {15, 15}, {1, 0}, {9, 7}, {15, 0}} {
		if got := wots.Walk(h, 5, way[0], way[1]); got != h {
			t.Errorf("Walk from %d to %d: %s", way[0], way[1], got.Show())
		}
	}
	for from := range 15 {
		if got := wots.Walk(h, 5, from, from+1); got != tag.Chain(h, 5, from) {
			t.Errorf("Walk of one step from %d: %s", from, got.Show())
		}
	}
}

// P4.2: two ways one behind the other are the whole way.
func TestWalkOfTwoWays(t *testing.T) {
	h := hashAt(10)
	for to := range 16 {
		for between := range to + 1 {
			for from := range between + 1 {
				got := wots.Walk(wots.Walk(h, 66, from, between), 66, between, to)
				if got != wots.Walk(h, 66, from, to) {
					t.Errorf("Walk from %d to %d by %d: %s", from, to, between, got.Show())
				}
			}
		}
	}
}

// P1 of DOC.md: Walk ends at numbers of which nothing else is promised, and is h itself where to is at most from.
func TestWalkEnds(t *testing.T) {
	numbers := []int{math.MinInt, math.MinInt + 1, -1 << 31, -16, -1, 0, 7, 15, 16, 67, 1 << 31, math.MaxInt - 1, math.MaxInt}
	h := hashAt(11)
	for _, from := range numbers {
		for _, to := range numbers {
			for _, chain := range numbers {
				if got := wots.Walk(h, chain, from, to); to <= from && got != h {
					t.Errorf("Walk on chain %d from %d to %d: %s", chain, from, to, got.Show())
				}
			}
		}
	}
}
