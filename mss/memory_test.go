package mss_test

import (
	"bytes"
	"slices"
	"testing"

	"syngraph/api"
	"syngraph/mss"
	"syngraph/sha"
)

// P6.5: what is handed in, its spare room too, is the same behind each call.
func TestHandedInNotChanged(t *testing.T) {
	for kind := 1; kind <= 2; kind++ {
		c := signedAt(t, kind, 2, 1)
		parts, path := slices.Repeat(c.s.Parts, 2), slices.Repeat(c.s.Path, 2)
		given := mss.Signature{Kind: kind, Index: 1, Parts: parts[:len(c.s.Parts)], Path: path[:2]}
		whole := bytes.Repeat(c.msg, 2)
		read := append(given.Bytes(), 1, 2, 3, 4, 5, 6, 7, 8)
		keptParts, keptPath, keptWhole, keptRead := slices.Clone(parts), slices.Clone(path), slices.Clone(whole), slices.Clone(read)
		seed, public := mainSeed, c.public
		mustSign(t, mustNew(t, seed, kind, 1), whole[:7])
		mss.Verify(public, kind, 2, whole[:7], given)
		mss.Verify(public, kind, 1, whole[:6], given)
		given.Bytes()
		given.Equal(c.s)
		c.s.Equal(given)
		mss.Parse(read[:len(read)-8])
		mss.Parse(read[:40])
		mss.Parse(read)
		if !slices.Equal(parts, keptParts) || !slices.Equal(path, keptPath) || given.Kind != kind || given.Index != 1 || len(given.Path) != 2 {
			t.Errorf("kind %d: a signature that was handed in was changed", kind)
		}
		if !bytes.Equal(whole, keptWhole) || !bytes.Equal(read, keptRead) {
			t.Errorf("kind %d: bytes that were handed in were changed", kind)
		}
		if seed != mainSeed || public != c.public {
			t.Errorf("kind %d: a hash that was handed in was changed", kind)
		}
	}
}

// P6.5: changing what was handed in changes nothing that was told, or is told later.
func TestHandedInNotKept(t *testing.T) {
	for kind := 1; kind <= 2; kind++ {
		seed, msg := mainSeed, []byte("message")
		k := mustNew(t, seed, kind, 2)
		first := mustSign(t, k, msg)
		clear(seed[:])
		clear(msg)
		expectSignature(t, first, mainSeed, kind, 2, 0, []byte("message"))
		expectSignature(t, mustSign(t, k, []byte("message")), mainSeed, kind, 2, 1, []byte("message"))
		if k.Public() != publicOf(t, mainSeed, kind, 2) {
			t.Errorf("kind %d: the seed that was handed in was kept", kind)
		}
		b := bytesOf(first)
		read, e := mss.Parse(b)
		clear(b)
		if e != api.OK || !read.Equal(first) {
			t.Errorf("kind %d: Parse kept its bytes, error %d", kind, e)
		}
		bent := signed{s: first}.bent(func(s *mss.Signature) {}).s
		told := bent.Bytes()
		clear(bent.Parts)
		clear(bent.Path)
		if !bytes.Equal(told, bytesOf(first)) {
			t.Errorf("kind %d: Bytes kept the hashes", kind)
		}
		c := signed{k.Public(), kind, 2, []byte("message"), bent}
		c.expect(t, api.ErrSign, "with hashes that were cleared")
	}
}

// spoil fills a signature's hashes, their spare room too.
func spoil(s mss.Signature) {
	for _, l := range [][]sha.Hash{s.Parts, s.Path} {
		l = l[:cap(l)]
		for i := range l {
			l[i] = hashAt(77)
		}
	}
}

// P6.5: what Sign told is the caller's own: filling it changes neither the key nor another signature.
func TestSignToldIsNew(t *testing.T) {
	for kind := 1; kind <= 2; kind++ {
		k, o := mustNew(t, mainSeed, kind, 2), mustNew(t, mainSeed, kind, 2)
		public := k.Public()
		for index := range 4 {
			s, other := mustSign(t, k, messageAt(index)), mustSign(t, o, messageAt(index))
			parts, path := slices.Clone(s.Parts), slices.Clone(s.Path)
			spoil(other)
			if !slices.Equal(s.Parts, parts) || !slices.Equal(s.Path, path) {
				t.Errorf("kind %d: changing a signature changed another one", kind)
			}
			expectSignature(t, s, mainSeed, kind, 2, index, messageAt(index))
			spoil(s)
			if k.Public() != public {
				t.Errorf("kind %d: changing a signature changed the key", kind)
			}
		}
	}
}

// P6.5: the two lists of one signature share no memory, spare room neither, in Sign and in Parse.
func TestListsAreApart(t *testing.T) {
	expect := func(s mss.Signature, what string) {
		t.Helper()
		path := slices.Clone(s.Path)
		spoil(mss.Signature{Parts: s.Parts})
		if !slices.Equal(s.Path, path) {
			t.Errorf("%s: filling the parts changed the path", what)
		}
		parts := slices.Clone(s.Parts)
		clear(s.Path[:cap(s.Path)])
		if !slices.Equal(s.Parts, parts) {
			t.Errorf("%s: filling the path changed the parts", what)
		}
	}
	for kind := 1; kind <= 2; kind++ {
		c := signedAt(t, kind, 3, 2)
		read, _ := mss.Parse(c.s.Bytes())
		expect(read, "Parse")
		expect(c.s, "Sign")
	}
}

// P6.5: what Parse and Bytes told is the caller's own.
func TestReadToldIsNew(t *testing.T) {
	s := madeOf(1, 3, 67, 8)
	b := s.Bytes()
	first, _ := mss.Parse(b)
	second, _ := mss.Parse(b)
	spoil(first)
	expectSame(t, second, s)
	if !bytes.Equal(b, bytesOf(s)) {
		t.Errorf("changing what Parse told changed its bytes")
	}
	other := s.Bytes()
	clear(b[:cap(b)])
	if !bytes.Equal(other, bytesOf(s)) || !bytes.Equal(s.Bytes(), bytesOf(s)) {
		t.Errorf("changing bytes changed other ones")
	}
	expectSame(t, s, madeOf(1, 3, 67, 8))
	expectSame(t, second, s)
}

// P6.5, and what is refused changes nothing: a key goes on as ever, whatever was asked of others in between.
func TestNothingElseIsKept(t *testing.T) {
	for kind := 1; kind <= 2; kind++ {
		k := mustNew(t, mainSeed, kind, 1)
		public := k.Public()
		mss.New(mainSeed, 0, 1)
		mss.Restore(mainSeed, kind, 1, 3)
		mss.Parse([]byte{1})
		mss.Verify(sha.Hash{}, 3-kind, 1, nil, mss.Signature{})
		used := mustRestore(t, mainSeed, kind, 1, 2)
		used.Sign(nil)
		expectState(t, k, 1, 0)
		expectSignature(t, mustSign(t, k, nil), mainSeed, kind, 1, 0, nil)
		mustSign(t, mustNew(t, hashAt(5), 3-kind, 1), []byte("x"))
		expectSignature(t, mustSign(t, k, []byte("x")), mainSeed, kind, 1, 1, []byte("x"))
		if k.Public() != public {
			t.Errorf("kind %d: the public key was changed", kind)
		}
	}
}
