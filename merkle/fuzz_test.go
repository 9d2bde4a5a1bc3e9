package merkle_test

import (
	"math"
	"slices"
	"testing"

	"syngraph/api"
	"syngraph/merkle"
)

// P1 of DOC.md, and P7.1 and P7.2: no call panics, and each tells what the chapter says, whatever it is given.
func FuzzAll(f *testing.F) {
	f.Add([]byte(nil), 0, 0)
	f.Add([]byte("a"), 1, -1)
	f.Add([]byte("abcdefg"), 3, 2)
	f.Add([]byte("aaaaaaaa"), 8, 8)
	f.Add([]byte("abcdefghijklmnopq"), math.MinInt, math.MaxInt)
	f.Fuzz(func(t *testing.T, b []byte, at, size int) {
		var leaves [][]byte
		for i := range b {
			leaves = append(leaves, b[i:min(len(b), i+int(b[i]%4))])
		}
		l := merkle.Leaves(leaves)
		n := len(b)
		if merkle.Split(size) != splitOf(size) {
			t.Errorf("Split of %d: %d", size, merkle.Split(size))
		}
		next := 0
		for at, root := range merkle.Each(l) {
			if at != next || root != rootOf(l[:at]) || root != merkle.Root(l[:at]) {
				t.Errorf("Each of %d at %d: %d, %s", n, next, at, root.Show())
			}
			next++
			if at == size || at == 64 {
				break
			}
		}
		for _, i := range []int{at, at & 7, at & 127} {
			path, e := merkle.Path(l, i)
			if there := i >= 0 && i < n; there != (e == api.OK) || !there && e != api.ErrRange || there && !slices.Equal(path, pathOf(l, i)) {
				t.Errorf("Path of %d in %d: error %d", i, n, e)
			}
			proof, e := merkle.Proof(l, i)
			if there := i >= 0 && i <= n; there != (e == api.OK) || !there && e != api.ErrRange || there && !slices.Equal(proof, proofOf(l, i)) {
				t.Errorf("Proof from %d in %d: error %d", i, n, e)
			}
		}
	})
}

func BenchmarkEach(b *testing.B) {
	l := listOf(1 << 12)
	for b.Loop() {
		for range merkle.Each(l) {
		}
	}
}

func BenchmarkRoot(b *testing.B) {
	l := listOf(1 << 12)
	for b.Loop() {
		merkle.Root(l)
	}
}
