package sha_test

import (
	"bytes"
	"crypto/sha256"
	"strings"
	"testing"

	"syngraph/sha"
)

// pattern tells n bytes, all of 0 to 255 among them, that differ from block to block.
func pattern(n int) []byte {
	b := make([]byte, n)
	for i := range b {
		b[i] = byte(i*7 + i/64*31 + 200)
	}
	return b
}

// reference is the library's own sum, which the program's is held against.
func reference(b []byte) sha.Hash {
	return sha.Hash(sha256.Sum256(b))
}

// P1.1: the sums that the document and FIPS 180-4 give.
func TestSumKnown(t *testing.T) {
	for _, c := range []struct{ text, want string }{
		{"", "e3b0c44298fc1c149afbf4c8996fb92427ae41e4649b934ca495991b7852b855"},
		{"abc", "ba7816bf8f01cfea414140de5dae2223b00361a396177a9cb410ff61f20015ad"},
		{"abcdbcdecdefdefgefghfghighijhijkijkljklmklmnlmnomnopnopq", "248d6a61d20638b8e5c026930c3e6039a33ce45964ff2167f6ecedd419db06c1"},
		{strings.Repeat("a", 1000000), "cdc76e5c9914fb9281a1c7e284d73e67f1809a48a497200e046d39ccc7112cd0"},
	} {
		if got := sha.Sum([]byte(c.text)).Show(); got != c.want {
			t.Errorf("Sum of %d bytes: %s, not %s", len(c.text), got, c.want)
		}
		d := sha.New()
		d.Write([]byte(c.text))
		if got := d.Sum().Show(); got != c.want {
			t.Errorf("Sum of a digest of %d bytes: %s, not %s", len(c.text), got, c.want)
		}
	}
}

// P1.1: the edges of the padding (55, 56, 63, 64, 65 and the same ones a block on), and all lengths between.
func TestSumAtAllLengths(t *testing.T) {
	for n := range 5*64 + 2 {
		b := pattern(n)
		if got := sha.Sum(b); got != reference(b) {
			t.Errorf("Sum of %d bytes: %s", n, got.Show())
		}
		noughts := make([]byte, n)
		if got := sha.Sum(noughts); got != reference(noughts) {
			t.Errorf("Sum of %d noughts: %s", n, got.Show())
		}
	}
	if sha.Sum(nil) != sha.Sum([]byte{}) {
		t.Errorf("nil and empty have two sums")
	}
}

// P1.1: Write by two parts and by three, cut everywhere, some of them with no bytes.
func TestWriteInParts(t *testing.T) {
	for _, n := range []int{0, 1, 55, 56, 63, 64, 65, 127, 128, 129, 200} {
		b := pattern(n)
		for i := 0; i <= n; i++ {
			j := i + (n-i)/2
			d := sha.New()
			for _, part := range [][]byte{nil, b[:i], {}, b[i:j], nil, b[j:], {}} {
				d.Write(part)
			}
			if d.Sum() != reference(b) || d.Len() != n {
				t.Fatalf("%d bytes, cut at %d and %d: %s, Len %d", n, i, j, d.Sum().Show(), d.Len())
			}
		}
	}
}

// P1.1: the sum and the length behind each byte; asking for them leaves the digest as it is.
func TestSumInBetween(t *testing.T) {
	b := pattern(200)
	d := sha.New()
	for i := range b {
		if d.Len() != i {
			t.Errorf("Len: %d, not %d", d.Len(), i)
		}
		first, second := d.Sum(), d.Sum()
		if first != reference(b[:i]) || second != first || d.Len() != i {
			t.Errorf("behind %d bytes: %s, then %s, Len %d", i, first.Show(), second.Show(), d.Len())
		}
		d.Write(b[i : i+1])
	}
	if d.Sum() != reference(b) || d.Len() != len(b) {
		t.Errorf("at the end: %s, Len %d", d.Sum().Show(), d.Len())
	}
}

// P1.1: two digests that were begun at one time don't touch one another.
func TestNewIsNew(t *testing.T) {
	first, second := sha.New(), sha.New()
	first.Write([]byte("abc"))
	if second.Len() != 0 || second.Sum() != reference(nil) {
		t.Errorf("what was written into one digest is in another one")
	}
	if third := sha.New(); third.Len() != 0 || third.Sum() != reference(nil) {
		t.Errorf("New isn't of no bytes")
	}
}

// P1.1: a copy goes on by itself, and the first one too, whichever of them goes on first.
func TestCopy(t *testing.T) {
	for _, n := range []int{0, 1, 55, 56, 63, 64, 65, 130} {
		b := pattern(n)
		d := sha.New()
		d.Write(b)
		o := d.Copy()
		if o.Sum() != reference(b) || o.Len() != n {
			t.Errorf("a copy of %d bytes: %s, Len %d", n, o.Sum().Show(), o.Len())
		}
		long, short := pattern(100), []byte("x")
		d.Write(long)
		if o.Sum() != reference(b) || o.Len() != n {
			t.Errorf("the copy of %d bytes went on with the first one", n)
		}
		o.Write(short)
		if want := reference(append(pattern(n), long...)); d.Sum() != want || d.Len() != n+100 {
			t.Errorf("the first one of %d bytes: %s, Len %d", n, d.Sum().Show(), d.Len())
		}
		if want := reference(append(pattern(n), short...)); o.Sum() != want || o.Len() != n+1 {
			t.Errorf("the copy of %d bytes: %s, Len %d", n, o.Sum().Show(), o.Len())
		}
	}
}

// P1.3: what is handed in, its spare room too, is the same behind each call.
func TestHandedInNotChanged(t *testing.T) {
	for _, n := range []int{0, 1, 55, 56, 63, 64, 65, 200} {
		whole, want := pattern(n+100), pattern(n+100)
		d := sha.New()
		sha.Sum(whole[:n])
		d.Write(whole[:n])
		d.Write(whole[:n])
		d.Sum()
		d.Copy().Write(whole[:n])
		if !bytes.Equal(whole, want) {
			t.Errorf("%d bytes that were handed in, or what is behind them, were changed", n)
		}
	}
}

// P1.3: changing the bytes later changes no sum.
func TestHandedInNotKept(t *testing.T) {
	for _, n := range []int{1, 55, 56, 63, 64, 65, 200} {
		b, want := pattern(n), reference(pattern(n))
		d := sha.New()
		d.Write(b)
		o := d.Copy()
		sum := sha.Sum(b)
		clear(b)
		if sum != want || d.Sum() != want || o.Sum() != want {
			t.Errorf("%d bytes were kept", n)
		}
	}
}

// P1.3: a hash that was told is the caller's own.
func TestToldIsNew(t *testing.T) {
	d := sha.New()
	d.Write([]byte("abc"))
	h := d.Sum()
	clear(h[:])
	if d.Sum() != reference([]byte("abc")) {
		t.Errorf("changing a sum that was told changed the digest")
	}
}

func FuzzSum(f *testing.F) {
	f.Add([]byte(nil), 0)
	f.Add([]byte("abc"), 1)
	f.Add(pattern(130), 64)
	f.Fuzz(func(t *testing.T, b []byte, cut int) {
		cut = int(uint(cut) % uint(len(b)+1))
		d := sha.New()
		d.Write(b[:cut])
		d.Write(b[cut:])
		if want := reference(b); sha.Sum(b) != want || d.Sum() != want || d.Len() != len(b) {
			t.Errorf("of %x, cut at %d: %s and %s, Len %d", b, cut, sha.Sum(b).Show(), d.Sum().Show(), d.Len())
		}
	})
}

func BenchmarkSum(b *testing.B) {
	block := pattern(1 << 16)
	b.SetBytes(int64(len(block)))
	for b.Loop() {
		sha.Sum(block)
	}
}

func BenchmarkSumShort(b *testing.B) {
	block := pattern(64)
	for b.Loop() {
		sha.Sum(block)
	}
}
