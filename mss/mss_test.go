package mss_test

import (
	"math"
	"slices"
	"sync"
	"testing"

	"syngraph/api"
	"syngraph/lamport"
	"syngraph/mss"
	"syngraph/sha"
	"syngraph/tag"
	"syngraph/wots"
)

// hashAt tells another hash for each i.
func hashAt(i int) sha.Hash {
	return sha.Sum([]byte{byte(i), byte(i >> 8), byte(i >> 16)})
}

// mainSeed is the seed of most of the tests' keys.
var mainSeed = hashAt(1)

// leafOf reckons a leaf by layers 2, 4 and 5, as the chapter's words give it.
func leafOf(t *testing.T, seed sha.Hash, kind, index int) sha.Hash {
	t.Helper()
	public, e := wots.Public(seed, index)
	if kind == 2 {
		public, e = lamport.Public(seed, index)
	}
	if e != api.OK {
		t.Fatalf("the public key at %d: error %d", index, e)
	}
	return tag.Leaf(public[:])
}

// greatLeaves keeps, for each kind, the leaves of mainSeed's key of the greatest height: smaller keys have the first ones of them.
var greatLeaves [3][]sha.Hash
var greatOnce [3]sync.Once

// leavesOf reckons all leaves of a key.
func leavesOf(t *testing.T, seed sha.Hash, kind, height int) []sha.Hash {
	t.Helper()
	if seed == mainSeed {
		greatOnce[kind].Do(func() {
			for i := range 256 {
				greatLeaves[kind] = append(greatLeaves[kind], leafOf(t, seed, kind, i))
			}
		})
		return slices.Clone(greatLeaves[kind][:1<<height])
	}
	var l []sha.Hash
	for i := range 1 << height {
		l = append(l, leafOf(t, seed, kind, i))
	}
	return l
}

// halved reckons, of the hashes of one level, those of the next one up.
func halved(l []sha.Hash) []sha.Hash {
	var up []sha.Hash
	for i := 0; i+1 < len(l); i += 2 {
		up = append(up, tag.Node(l[i], l[i+1]))
	}
	return up
}

// publicOf reckons the root over a key's leaves, level by level.
func publicOf(t *testing.T, seed sha.Hash, kind, height int) sha.Hash {
	t.Helper()
	l := leavesOf(t, seed, kind, height)
	for len(l) > 1 {
		l = halved(l)
	}
	return l[0]
}

// pathOf reckons the hashes beside, level by level.
func pathOf(t *testing.T, seed sha.Hash, kind, height, index int) []sha.Hash {
	t.Helper()
	var path []sha.Hash
	for l := leavesOf(t, seed, kind, height); len(l) > 1; l = halved(l) {
		if index%2 == 0 {
			path = append(path, l[index+1])
		} else {
			path = append(path, l[index-1])
		}
		index /= 2
	}
	return path
}

// partsOf reckons the parts by layers 2, 4 and 5.
func partsOf(t *testing.T, seed sha.Hash, kind, index int, msg []byte) []sha.Hash {
	t.Helper()
	l, e := wots.Sign(seed, index, tag.Message(msg))
	if kind == 2 {
		l, e = lamport.Sign(seed, index, tag.Message(msg))
	}
	if e != api.OK {
		t.Fatalf("the signature at %d: error %d", index, e)
	}
	return l
}

// mustRestore tells a key that the test needs.
func mustRestore(t *testing.T, seed sha.Hash, kind, height, next int) *mss.Key {
	t.Helper()
	k, e := mss.Restore(seed, kind, height, next)
	if e != api.OK || k == nil {
		t.Fatalf("Restore of kind %d, height %d at %d: error %d", kind, height, next, e)
	}
	return k
}

// mustNew tells a key that the test needs.
func mustNew(t *testing.T, seed sha.Hash, kind, height int) *mss.Key {
	t.Helper()
	k, e := mss.New(seed, kind, height)
	if e != api.OK || k == nil {
		t.Fatalf("New of kind %d, height %d: error %d", kind, height, e)
	}
	return k
}

// expectState tells the test where a key's next index is another, or not as many are left.
func expectState(t *testing.T, k *mss.Key, height, next int) {
	t.Helper()
	if k.Next() != next || k.Left() != 1<<height-next {
		t.Errorf("Next %d and Left %d, not %d and %d", k.Next(), k.Left(), next, 1<<height-next)
	}
}

// P6.1: New at each kind and height: its public key by the chapter's words, the next index 0, all of them left.
func TestNew(t *testing.T) {
	for kind := 1; kind <= 2; kind++ {
		for height := 0; height <= api.MaxHeight; height++ {
			k := mustNew(t, mainSeed, kind, height)
			expectState(t, k, height, 0)
			if got, want := k.Public(), publicOf(t, mainSeed, kind, height); got != want {
				t.Errorf("Public of kind %d, height %d: %s, not %s", kind, height, got.Show(), want.Show())
			}
			expectState(t, k, height, 0)
		}
	}
}

// P6.1: a key of one leaf has that as its public key; one of two leaves their node.
func TestPublicOfSmall(t *testing.T) {
	for kind := 1; kind <= 2; kind++ {
		for _, seed := range []sha.Hash{{}, hashAt(2)} {
			first, second := leafOf(t, seed, kind, 0), leafOf(t, seed, kind, 1)
			if mustNew(t, seed, kind, 0).Public() != first {
				t.Errorf("the public key of one leaf, kind %d", kind)
			}
			if mustNew(t, seed, kind, 1).Public() != tag.Node(first, second) {
				t.Errorf("the public key of two leaves, kind %d", kind)
			}
		}
	}
}

// P6.1: no two seeds, kinds or heights have one public key.
func TestPublicsDiffer(t *testing.T) {
	var all []sha.Hash
	for _, seed := range []sha.Hash{{}, hashAt(2), hashAt(3)} {
		for kind := 1; kind <= 2; kind++ {
			for height := range 3 {
				p := mustNew(t, seed, kind, height).Public()
				if slices.Contains(all, p) {
					t.Errorf("kind %d, height %d: the public key is another one's", kind, height)
				}
				all = append(all, p)
			}
		}
	}
}

// P6.1: Restore at each kind, height and next index, the last one at which nothing is left among them.
func TestRestore(t *testing.T) {
	for kind := 1; kind <= 2; kind++ {
		for height := 0; height <= api.MaxHeight; height++ {
			for next := 0; next <= 1<<height; next++ {
				expectState(t, mustRestore(t, mainSeed, kind, height, next), height, next)
			}
		}
	}
}

// P6.1: where a key stands changes nothing in its public key.
func TestPublicOfRestored(t *testing.T) {
	for kind := 1; kind <= 2; kind++ {
		for height := range 4 {
			want := publicOf(t, mainSeed, kind, height)
			for next := 0; next <= 1<<height; next++ {
				if got := mustRestore(t, mainSeed, kind, height, next).Public(); got != want {
					t.Errorf("kind %d, height %d, restored at %d: %s, not %s", kind, height, next, got.Show(), want.Show())
				}
			}
		}
		if got := mustRestore(t, mainSeed, kind, 8, 256).Public(); got != publicOf(t, mainSeed, kind, 8) {
			t.Errorf("kind %d, height 8, restored at its end: %s", kind, got.Show())
		}
	}
}

// noKinds are the numbers around the kinds, and the bounds of int.
func noKinds() []int {
	return []int{0, 3, -1, -2, 4, 1 << 32, 1<<32 + 1, math.MinInt, math.MinInt + 1, math.MaxInt}
}

// noHeights are the numbers around the heights, those at which a shift leaves the bits of a number, and the bounds of int.
func noHeights() []int {
	return []int{-1, 9, -2, 10, 31, 32, 62, 63, 64, 65, 1 << 32, math.MinInt, math.MaxInt}
}

// noNexts are the numbers around the next indexes of a key of this height, and the bounds of int.
func noNexts(height int) []int {
	return []int{-1, 1<<height + 1, -2, 1<<height + 2, -1 << height, 2 << 8, 1 << 32, math.MinInt, math.MaxInt}
}

// expectNoKey tells the test where a key is made of what is none, or something else is told of it than ErrRange.
func expectNoKey(t *testing.T, kind, height, next int) {
	t.Helper()
	if k, e := mss.Restore(mainSeed, kind, height, next); e != api.ErrRange || k != nil {
		t.Errorf("Restore of kind %d, height %d at %d: error %d", kind, height, next, e)
	}
}

// P6.1: a kind or a height that is none: ErrRange, and no key beside it.
func TestNoKindNoHeight(t *testing.T) {
	expect := func(kind, height int) {
		t.Helper()
		if k, e := mss.New(mainSeed, kind, height); e != api.ErrRange || k != nil {
			t.Errorf("New of kind %d, height %d: error %d", kind, height, e)
		}
		expectNoKey(t, kind, height, 0)
		expectNoKey(t, kind, height, 1)
		expectNoKey(t, kind, height, -1)
	}
	for _, kind := range noKinds() {
		for height := 0; height <= api.MaxHeight; height++ {
			expect(kind, height)
		}
		for _, height := range noHeights() {
			expect(kind, height)
		}
	}
	for _, height := range noHeights() {
		expect(1, height)
		expect(2, height)
	}
}

// P6.1: a next index that is below 0 or beyond 2^height: ErrRange, and no key beside it.
func TestNoNext(t *testing.T) {
	for kind := 1; kind <= 2; kind++ {
		for height := 0; height <= api.MaxHeight; height++ {
			for _, next := range noNexts(height) {
				expectNoKey(t, kind, height, next)
			}
		}
	}
}
