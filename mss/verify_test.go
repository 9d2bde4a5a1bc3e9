package mss_test

import (
	"math"
	"slices"
	"testing"

	"syngraph/api"
	"syngraph/lamport"
	"syngraph/mss"
	"syngraph/sha"
	"syngraph/tag"
	"syngraph/wots"
)

// signed is a signature that the test bends, and all that it is right under.
type signed struct {
	public       sha.Hash
	kind, height int
	msg          []byte
	s            mss.Signature
}

// signedAt tells the signature of some message by an index of a key of mainSeed.
func signedAt(t *testing.T, kind, height, index int) signed {
	t.Helper()
	k := mustRestore(t, mainSeed, kind, height, index)
	msg := []byte("message")
	return signed{publicOf(t, mainSeed, kind, height), kind, height, msg, mustSign(t, k, msg)}
}

// bent tells another one, with a signature of its own that change has changed.
func (c signed) bent(change func(s *mss.Signature)) signed {
	c.s.Parts, c.s.Path = slices.Clone(c.s.Parts), slices.Clone(c.s.Path)
	change(&c.s)
	return c
}

// verify tells what the program says of it.
func (c signed) verify() api.Errno {
	return mss.Verify(c.public, c.kind, c.height, c.msg, c.s)
}

// expect tells the test where the program says something else than want.
func (c signed) expect(t *testing.T, want api.Errno, what string) {
	t.Helper()
	if got := c.verify(); got != want {
		t.Errorf("kind %d, height %d, index %d, %s: %d, not %d", c.kind, c.height, c.s.Index, what, got, want)
	}
}

// someSigned tells signatures of both kinds, at the ends and in between, of small keys and great ones.
func someSigned(t *testing.T) []signed {
	t.Helper()
	var l []signed
	for kind := 1; kind <= 2; kind++ {
		for _, c := range [][2]int{{0, 0}, {1, 0}, {1, 1}, {2, 1}, {3, 0}, {3, 5}, {3, 7}} {
			l = append(l, signedAt(t, kind, c[0], c[1]))
		}
	}
	return l
}

// P6.3: each signature of a key is right under its public key.
func TestVerifyAll(t *testing.T) {
	for kind := 1; kind <= 2; kind++ {
		for height := range 5 {
			public := publicOf(t, mainSeed, kind, height)
			k := mustNew(t, mainSeed, kind, height)
			for index := range 1 << height {
				s := mustSign(t, k, messageAt(index))
				signed{public, kind, height, messageAt(index), s}.expect(t, api.OK, "as it was signed")
			}
		}
		for _, c := range [][2]int{{5, 21}, {7, 64}, {8, 0}, {8, 170}, {8, 255}} {
			signedAt(t, kind, c[0], c[1]).expect(t, api.OK, "as it was signed")
		}
	}
}

// P6.3: of another message it is none, and of no message neither.
func TestVerifyAnotherMessage(t *testing.T) {
	for _, c := range someSigned(t) {
		for _, msg := range []string{"", "m", "messag", "Message", "message\x00"} {
			other := c
			other.msg = []byte(msg)
			other.expect(t, api.ErrSign, "of another message")
		}
	}
	k := mustNew(t, mainSeed, 1, 1)
	for _, msg := range [][]byte{nil, {}} {
		s := mustSign(t, k, msg)
		signed{k.Public(), 1, 1, nil, s}.expect(t, api.OK, "of no message")
		signed{k.Public(), 1, 1, []byte{}, s}.expect(t, api.OK, "of no message")
		signed{k.Public(), 1, 1, []byte{0}, s}.expect(t, api.ErrSign, "of no message, at a nought")
	}
}

// P6.3: under another public key it is none, even where the two differ in one bit.
func TestVerifyAnotherKey(t *testing.T) {
	for _, c := range someSigned(t) {
		one := tag.Leaf(nil)
		for _, public := range []sha.Hash{{}, one, mustNew(t, hashAt(5), c.kind, c.height).Public(), mustNew(t, mainSeed, 3-c.kind, c.height).Public()} {
			other := c
			other.public = public
			other.expect(t, api.ErrSign, "under another key")
		}
		for place := range 32 {
			other := c
			other.public[place] ^= 1 << (place % 8)
			other.expect(t, api.ErrSign, "under a turned key")
		}
	}
}

// P6.3: as one of another kind or height it is none, whichever of both sides says so.
func TestVerifyAnotherKindOrHeight(t *testing.T) {
	for _, c := range someSigned(t) {
		asked := c
		asked.kind = 3 - c.kind
		asked.expect(t, api.ErrSign, "asked as one of the other kind")
		for _, kind := range append(noKinds(), 3-c.kind) {
			c.bent(func(s *mss.Signature) { s.Kind = kind }).expect(t, api.ErrSign, "saying another kind")
		}
		both := c.bent(func(s *mss.Signature) { s.Kind = 3 - c.kind })
		both.kind = 3 - c.kind
		both.expect(t, api.ErrSign, "of the other kind on both sides")
		for height := 0; height <= api.MaxHeight; height++ {
			other := c
			other.height = height
			if height != c.height {
				other.expect(t, api.ErrSign, "asked as one of another height")
			}
		}
	}
}

// P6.3: at another index it is none: not at one beside, and not at one beyond the key that has the same lower bits.
func TestVerifyAnotherIndex(t *testing.T) {
	for _, c := range someSigned(t) {
		count := 1 << c.height
		beyond := []int{-1, count, c.s.Index + count, c.s.Index - count, c.s.Index + 256, c.s.Index + 1<<32, c.s.Index + math.MinInt, ^c.s.Index, math.MinInt, math.MaxInt}
		for index := range count {
			beyond = append(beyond, index, index+count, index-count)
		}
		for _, index := range beyond {
			want := api.ErrSign
			if index == c.s.Index {
				want = api.OK
			}
			c.bent(func(s *mss.Signature) { s.Index = index }).expect(t, want, "at an index")
		}
	}
}

// P6.3: with a turned byte in any part, or in any hash of the path, it is none.
func TestVerifyTurned(t *testing.T) {
	for _, c := range someSigned(t) {
		for i := range c.s.Path {
			for place := range 32 {
				c.bent(func(s *mss.Signature) { s.Path[i][place] ^= 1 << (i % 8) }).expect(t, api.ErrSign, "with a turned path")
			}
		}
		for i := range c.s.Parts {
			if c.height == 3 && c.s.Index != 5 {
				break
			}
			c.bent(func(s *mss.Signature) { s.Parts[i][i%32] ^= 1 << (i % 8) }).expect(t, api.ErrSign, "with a turned part")
		}
	}
}

// P6.3: with a hash more or less in the parts or in the path, at either end, or with none, it is none.
func TestVerifyMoreOrLess(t *testing.T) {
	for _, c := range someSigned(t) {
		h := hashAt(6)
		for what, change := range map[string]func(s *mss.Signature){
			"a part more":           func(s *mss.Signature) { s.Parts = append(s.Parts, h) },
			"a part more ahead":     func(s *mss.Signature) { s.Parts = append([]sha.Hash{h}, s.Parts...) },
			"a part less":           func(s *mss.Signature) { s.Parts = s.Parts[:len(s.Parts)-1] },
			"a part less ahead":     func(s *mss.Signature) { s.Parts = s.Parts[1:] },
			"no parts":              func(s *mss.Signature) { s.Parts = nil },
			"empty parts":           func(s *mss.Signature) { s.Parts = []sha.Hash{} },
			"many parts":            func(s *mss.Signature) { s.Parts = slices.Repeat(s.Parts, 20) },
			"the other kind's":      func(s *mss.Signature) { s.Parts = make([]sha.Hash, wots.Chains+lamport.Parts-len(s.Parts)) },
			"a path's hash more":    func(s *mss.Signature) { s.Path = append(s.Path, h) },
			"one of noughts more":   func(s *mss.Signature) { s.Path = append(s.Path, sha.Hash{}) },
			"one more in its front": func(s *mss.Signature) { s.Path = append([]sha.Hash{h}, s.Path...) },
			"a long path":           func(s *mss.Signature) { s.Path = slices.Repeat([]sha.Hash{h}, 100) },
		} {
			c.bent(change).expect(t, api.ErrSign, what)
		}
		if c.height > 0 {
			c.bent(func(s *mss.Signature) { s.Path = s.Path[1:] }).expect(t, api.ErrSign, "a path's first hash less")
			c.bent(func(s *mss.Signature) { s.Path = s.Path[:c.height-1] }).expect(t, api.ErrSign, "a path's last hash less")
			c.bent(func(s *mss.Signature) { s.Path = nil }).expect(t, api.ErrSign, "no path")
		}
	}
}

// P6.3: the number of hashes in a path is the height, even where a shorter or a longer one makes the public key.
func TestVerifyGoesByHeight(t *testing.T) {
	for kind := 1; kind <= 2; kind++ {
		c := signedAt(t, kind, 2, 2)
		for height := 0; height <= api.MaxHeight; height++ {
			want := api.ErrSign
			if height == 2 {
				want = api.OK
			}
			other := c
			other.height = height
			other.expect(t, want, "with the path of its height")
		}
		longer := c.bent(func(s *mss.Signature) { s.Path = append(s.Path, hashAt(7)) })
		longer.public = tag.Node(c.public, hashAt(7))
		longer.expect(t, api.ErrSign, "with a longer path that makes the public key")
		longer.height = 3
		longer.expect(t, api.OK, "with a longer path at its height")
	}
}

// P6.3: of any hashes, whether or not somebody signed, it goes by the root that they make.
func TestVerifyAnyHashes(t *testing.T) {
	msg := []byte("nobody signed this")
	for kind, count := range []int{1: wots.Chains, 2: lamport.Parts} {
		if kind == 0 {
			continue
		}
		s := mss.Signature{Kind: kind, Index: 5, Parts: make([]sha.Hash, count), Path: []sha.Hash{{}, hashAt(8), hashAt(9)}}
		one, _ := wots.Recover(tag.Message(msg), s.Parts)
		if kind == 2 {
			one, _ = lamport.Recover(tag.Message(msg), s.Parts)
		}
		root := tag.Node(hashAt(9), tag.Node(tag.Node(sha.Hash{}, tag.Leaf(one[:])), hashAt(8)))
		signed{root, kind, 3, msg, s}.expect(t, api.OK, "that nobody signed")
		signed{tag.Leaf(one[:]), kind, 3, msg, s}.expect(t, api.ErrSign, "under its leaf")
	}
}

// P6.3: parts that lead to no key are refused even under the leaf of a hash of noughts.
func TestVerifyUnderNoughts(t *testing.T) {
	public := tag.Leaf(make([]byte, 32))
	for kind := 1; kind <= 2; kind++ {
		for _, count := range []int{0, 1, 66, 68, 511, 513} {
			s := mss.Signature{Kind: kind, Parts: make([]sha.Hash, count)}
			signed{public, kind, 0, nil, s}.expect(t, api.ErrSign, "with parts that lead to no key")
		}
	}
}

// P6.3: two signatures of one key don't lend one another anything.
func TestVerifyMixed(t *testing.T) {
	for kind := 1; kind <= 2; kind++ {
		first, second := signedAt(t, kind, 2, 0), signedAt(t, kind, 2, 1)
		first.bent(func(s *mss.Signature) { s.Path = second.s.Path }).expect(t, api.ErrSign, "with another one's path")
		first.bent(func(s *mss.Signature) { s.Parts = second.s.Parts }).expect(t, api.ErrSign, "with another one's parts")
		first.bent(func(s *mss.Signature) { s.Index = second.s.Index }).expect(t, api.ErrSign, "with another one's index")
	}
}

// P6.3: a kind or a height that is none: ErrRange, whatever the signature is, even one that says the same.
func TestVerifyNoKindNoHeight(t *testing.T) {
	c := signedAt(t, 1, 1, 1)
	expect := func(kind, height int) {
		t.Helper()
		for _, s := range []mss.Signature{{}, c.s, {Kind: kind, Index: -1}, {Kind: kind, Parts: c.s.Parts, Path: make([]sha.Hash, min(max(height, 0), 100))}} {
			signed{c.public, kind, height, c.msg, s}.expect(t, api.ErrRange, "of what is no key")
		}
	}
	for _, kind := range noKinds() {
		for _, height := range append(noHeights(), 0, 1, 8) {
			expect(kind, height)
		}
	}
	for _, height := range noHeights() {
		expect(1, height)
		expect(2, height)
	}
	for height := 0; height <= api.MaxHeight; height++ {
		signed{c.public, 1, height, nil, mss.Signature{}}.expect(t, api.ErrSign, "with nothing set")
		signed{c.public, 2, height, nil, mss.Signature{}}.expect(t, api.ErrSign, "with nothing set")
	}
}
