package sha

import (
	"crypto/sha256"
	"encoding"
	"encoding/binary"
	"math/big"
	"testing"
)

// primes tells the n least primes.
func primes(n int) []int64 {
	var found []int64
	for x := int64(2); len(found) < n; x++ {
		if big.NewInt(x).ProbablyPrime(0) {
			found = append(found, x)
		}
	}
	return found
}

// power tells r times itself, n times in all.
func power(r *big.Int, n int) *big.Int {
	return new(big.Int).Exp(r, big.NewInt(int64(n)), nil)
}

// behindThePoint tells the first 32 bits behind the point of x's n-th root.
func behindThePoint(x int64, n int) uint32 {
	target := new(big.Int).Lsh(big.NewInt(x), uint(32*n))
	root := new(big.Int)
	for bit := 40; bit >= 0; bit-- {
		next := new(big.Int).SetBit(root, bit, 1)
		if power(next, n).Cmp(target) <= 0 {
			root = next
		}
	}
	return uint32(root.Uint64())
}

// P1.1: the numbers of the rounds and the first eight are what the document says of primes and their roots.
func TestNumbersFromPrimes(t *testing.T) {
	for i, p := range primes(64) {
		if want := behindThePoint(p, 3); roundNumbers[i] != want {
			t.Errorf("round %d: %08x, not %08x", i, roundNumbers[i], want)
		}
	}
	first := firstState()
	for i, p := range primes(8) {
		if want := behindThePoint(p, 2); first[i] != want {
			t.Errorf("first number %d: %08x, not %08x", i, first[i], want)
		}
	}
}

// referenceAt tells the library's sum of a digest that has come to length bytes, with this state and block.
func referenceAt(t *testing.T, d Digest) Hash {
	kept := []byte("sha\x03")
	for _, x := range d.state {
		kept = binary.BigEndian.AppendUint32(kept, x)
	}
	kept = append(kept, d.block[:]...)
	kept = binary.BigEndian.AppendUint64(kept, uint64(d.length))
	ref := sha256.New()
	if err := ref.(encoding.BinaryUnmarshaler).UnmarshalBinary(kept); err != nil {
		t.Fatal(err)
	}
	return Hash(ref.Sum(nil))
}

// P1.1: the count of bits has eight bytes: more bits than 32 bits tell are there from 2^29 bytes on.
func TestSumOfVeryMany(t *testing.T) {
	for _, length := range []int{1<<29 - 1, 1 << 29, 1<<29 + 55, 1<<29 + 56, 1<<31 - 64, 1<<31 - 1} {
		d := New()
		d.length = length
		for i := range length % blockSize {
			d.block[i] = byte(i + 1)
		}
		if got, want := d.Sum(), referenceAt(t, *d); got != want || d.Len() != length {
			t.Errorf("behind %d bytes: %s, not %s; Len %d", length, got.Show(), want.Show(), d.Len())
		}
	}
}
