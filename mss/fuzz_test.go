package mss_test

import (
	"bytes"
	"math"
	"testing"

	"syngraph/api"
	"syngraph/mss"
	"syngraph/sha"
)

// P1 of DOC.md, and P6.1 to P6.3: no call panics, and each tells what the chapter says, whatever it is given.
func FuzzKeys(f *testing.F) {
	f.Add([]byte("seed"), 1, 0, 0, []byte(nil))
	f.Add([]byte(nil), 2, 1, 1, []byte("message"))
	f.Add([]byte("seed"), 1, 2, 4, []byte("x"))
	f.Add([]byte("seed"), 2, 2, 5, []byte("x"))
	f.Add([]byte("a"), 0, -1, -1, []byte("a"))
	f.Add([]byte("a"), 3, 9, 513, []byte("a"))
	f.Add([]byte("a"), math.MinInt, math.MaxInt, math.MinInt, []byte("a"))
	f.Add([]byte("a"), 1, math.MinInt, math.MaxInt, []byte("a"))
	f.Fuzz(func(t *testing.T, b []byte, kind, height, next int, msg []byte) {
		if height > 3 && height <= api.MaxHeight {
			return // great keys take long
		}
		seed := sha.Sum(b)
		right := (kind == 1 || kind == 2) && height >= 0 && height <= api.MaxHeight
		k, e := mss.Restore(seed, kind, height, next)
		if !right || next < 0 || next > 1<<height {
			if e != api.ErrRange || k != nil {
				t.Errorf("Restore of kind %d, height %d at %d: error %d", kind, height, next, e)
			}
			if e := mss.Verify(seed, kind, height, msg, mss.Signature{}); (e == api.ErrRange) == right || e == api.OK {
				t.Errorf("Verify of kind %d, height %d: %d", kind, height, e)
			}
			return
		}
		expectState(t, k, height, next)
		public := publicOf(t, seed, kind, height)
		if e != api.OK || k.Public() != public {
			t.Errorf("kind %d, height %d: error %d", kind, height, e)
		}
		if next == 1<<height {
			expectExhausted(t, k, height)
			return
		}
		s := mustSign(t, k, msg)
		expectSignature(t, s, seed, kind, height, next, msg)
		expectState(t, k, height, next+1)
		signed{public, kind, height, msg, s}.expect(t, api.OK, "as it was signed")
		signed{public, kind, height, append(msg[:len(msg):len(msg)], 0), s}.expect(t, api.ErrSign, "of another message")
	})
}

// P1 of DOC.md, and P6.3 and P6.4: whatever a signature has, no call panics, and what may be one is read back.
func FuzzSignatures(f *testing.F) {
	f.Add(1, 0, 67, 0, 0)
	f.Add(2, 255, 512, 8, 8)
	f.Add(2, 256, 513, 9, 1)
	f.Add(0, -1, 0, 0, 0)
	f.Add(math.MinInt, math.MaxInt, 700, 70, math.MinInt)
	f.Fuzz(func(t *testing.T, kind, index, parts, path, height int) {
		s := madeOf(kind, index, min(max(parts, 0), 700), min(max(path, 0), 70))
		for _, asked := range []int{kind, 1, 2} {
			if mss.Verify(sha.Hash{}, asked, height, nil, s) == api.OK {
				t.Errorf("Verify under noughts")
			}
		}
		b := s.Bytes()
		if !bytes.Equal(b, bytesOf(s)) || !s.Equal(s) {
			t.Errorf("Bytes or Equal of kind %d, index %d", kind, index)
		}
		if kind < 1 || kind > 2 || index < 0 || index > 255 || len(s.Parts) > 512 || len(s.Path) > 8 {
			expectNone(t, b, "what may be no signature")
			return
		}
		got, e := mss.Parse(b)
		if e != api.OK {
			t.Errorf("Parse: error %d", e)
		}
		expectSame(t, got, s)
	})
}

// P1 of DOC.md, and P6.4: of any bytes Parse tells ErrForm and nothing, or a signature whose bytes they are.
func FuzzParse(f *testing.F) {
	f.Add([]byte(nil))
	f.Add(bytesOf(madeOf(1, 0, 0, 0)))
	f.Add(bytesOf(madeOf(2, 255, 2, 8)))
	f.Add(bytesOf(madeOf(2, 255, 2, 9)))
	f.Add(bytes.Repeat([]byte{255}, 40))
	f.Fuzz(func(t *testing.T, b []byte) {
		s, e := mss.Parse(b)
		if e != api.OK {
			expectNone(t, b, "any bytes")
			return
		}
		if !bytes.Equal(s.Bytes(), b) || s.Kind < 1 || s.Kind > 2 || s.Index < 0 || s.Index > 255 || len(s.Parts) > 512 || len(s.Path) > 8 {
			t.Errorf("Parse of %v tells a signature of other bytes, or one that may not be", b)
		}
		mss.Verify(sha.Hash{}, s.Kind, len(s.Path), b, s)
	})
}

func BenchmarkPublic(b *testing.B) {
	k, _ := mss.New(sha.Hash{}, 1, 4)
	for b.Loop() {
		k.Public()
	}
}

func BenchmarkVerify(b *testing.B) {
	k, _ := mss.New(sha.Hash{}, 1, 4)
	s, _ := k.Sign(nil)
	public := k.Public()
	for b.Loop() {
		mss.Verify(public, 1, 4, nil, s)
	}
}
