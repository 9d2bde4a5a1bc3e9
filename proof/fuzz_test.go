package proof_test

import (
	"math"
	"testing"

	"syngraph/api"
	"syngraph/proof"
	"syngraph/sha"
)

// holdLead holds Lead, In and Length to the chapter's words, whatever the numbers and hashes are.
func holdLead(t *testing.T, leaf sha.Hash, i, n int, path []sha.Hash) {
	if i < 0 || i >= n {
		wantNoLead(t, leaf, i, n, path, leaf, api.ErrRange)
		if proof.Length(i, n) != 0 {
			t.Fatalf("Length of %d in %d: %d", i, n, proof.Length(i, n))
		}
		return
	}
	length := lengthOf(i, n)
	if proof.Length(i, n) != length {
		t.Fatalf("Length of %d in %d: %d, not %d", i, n, proof.Length(i, n), length)
	}
	if len(path) != length {
		wantNoLead(t, leaf, i, n, path, leaf, api.ErrProof)
		return
	}
	wantLead(t, leaf, i, n, path, leadOf(leaf, i, n, path))
}

// holdBoth holds Both and On to the chapter's words, whatever the numbers and hashes are.
func holdBoth(t *testing.T, m, n int, old, root sha.Hash, p []sha.Hash) {
	if m < 0 || m > n {
		wantNeither(t, m, n, old, root, p, api.ErrRange)
		return
	}
	length, first, second := 0, old, old
	if m > 0 {
		length = subLength(m, n, true)
	}
	if len(p) != length {
		wantNeither(t, m, n, old, root, p, api.ErrProof)
		return
	}
	if m > 0 {
		first, second = bothOf(m, n, true, old, p)
	}
	wantBoth(t, m, n, old, p, first, second)
	right := first == old && second == root
	if m == 0 {
		right = old == sha.Sum(nil) && (n > 0 || root == old)
	}
	want := api.ErrProof
	if right {
		want = api.OK
	}
	wantOn(t, m, n, old, root, p, want)
}

// P1 of DOC.md, and P8.1 and P8.2: no call panics, and each tells what the chapter says, whatever it is given.
func FuzzAll(f *testing.F) {
	f.Add(0, 0, 0, false)
	f.Add(2, 7, 3, true)
	f.Add(3, 7, 4, true)
	f.Add(-1, 5, 1, false)
	f.Add(math.MaxInt-1, math.MaxInt, 62, true)
	f.Add(math.MinInt, math.MaxInt, 63, false)
	f.Add(1<<61+12345, 1<<62+99, 30, true)
	f.Fuzz(func(t *testing.T, at, n, length int, none bool) {
		old := hashAt(length)
		if none {
			old = sha.Sum(nil)
		}
		hashes := allHashes(130)
		for _, at := range []int{at, at & n, at & 127, n, n - 1} {
			lengths := []int{length & 127, proof.Length(at, n)}
			if at > 0 && at < n {
				lengths = append(lengths, subLength(at, n, true))
			}
			for _, length := range lengths {
				p := hashes[:length]
				holdLead(t, old, at, n, p)
				holdBoth(t, at, n, old, old, p)
				first, second, _ := proof.Both(at, n, old, p)
				holdBoth(t, at, n, first, second, p)
			}
		}
	})
}

func BenchmarkLead(b *testing.B) {
	hashes := listOf(63)
	for b.Loop() {
		proof.Lead(hashes[0], 0, math.MaxInt, hashes)
	}
}

func BenchmarkBoth(b *testing.B) {
	hashes := listOf(63)
	for b.Loop() {
		proof.Both(1, math.MaxInt, hashes[0], hashes)
	}
}
