package compact_test

import (
	"bytes"
	"math"
	"slices"
	"testing"

	"syngraph/api"
	"syngraph/compact"
	"syngraph/sha"
)

// P1 of DOC.md, and P9.1 to P9.3: whatever parts come behind one another, and whatever is asked between, a range stands for all of them.
func FuzzParts(f *testing.F) {
	f.Add([]byte(nil), 0)
	f.Add([]byte{1, 1, 1, 1, 1, 1, 1, 1, 1}, 1)
	f.Add([]byte{0, 7, 0, 64, 65, 3}, 2)
	f.Add([]byte{16, 16, 1, 31, 0, 255}, -1)
	f.Add([]byte{5, 2}, math.MinInt)
	f.Fuzz(func(t *testing.T, parts []byte, turn int) {
		parts = parts[:min(len(parts), 20)]
		r := compact.New()
		var l []sha.Hash
		for i, part := range parts {
			more := make([]sha.Hash, int(part%80))
			for k := range more {
				more[k] = sha.Sum([]byte{part, byte(i), byte(k)})
			}
			mustAppend(t, r, more...)
			l = append(l, more...)
			spoilHashes(more)
			switch uint(turn+i) % 4 {
			case 0:
				r = r.Copy()
			case 1:
				r = mustParse(t, r.Bytes())
			case 2:
				spoilHashes(r.Peaks())
			case 3:
				expectRefused(t, r, make([]sha.Hash, api.MaxLeaves-r.Size()+1)...)
			}
			expectRange(t, "behind a part", r, l)
		}
		other := rangeOf(t, l)
		expectEqual(t, "all at once", r, other, true)
		mustAppend(t, other, sha.Hash{})
		expectEqual(t, "one more", r, other, false)
	})
}

// P1 of DOC.md, and P9.2: of any bytes Parse tells ErrForm and no range, or a range whose bytes they are, which goes on.
func FuzzParse(f *testing.F) {
	f.Add([]byte(nil))
	f.Add(bytesOf(0, nil))
	f.Add(bytesOf(1, nil))
	f.Add(bytesOf(7, listOf(3)))
	f.Add(bytesOf(-1, listOf(1)))
	f.Add(bytesOf(api.MaxLeaves, listOf(1)))
	f.Add(bytesOf(api.MaxLeaves-1, listOf(20)))
	f.Add(bytesOf(api.MaxLeaves+1, listOf(2)))
	f.Add(bytes.Repeat([]byte{255}, 44))
	f.Fuzz(func(t *testing.T, b []byte) {
		same := slices.Clone(b)
		r, e := compact.Parse(b)
		if !bytes.Equal(b, same) {
			t.Fatalf("Parse changed what it read")
		}
		if e != api.OK {
			expectNone(t, "any bytes", b)
			return
		}
		n := r.Size()
		if n < 0 || n > api.MaxLeaves || len(r.Peaks()) != len(treesOf(n)) || !bytes.Equal(r.Bytes(), b) {
			t.Fatalf("Parse of %v tells a range of other bytes, or one that may not be", b)
		}
		r.Root()
		if n == api.MaxLeaves {
			expectRefused(t, r, sha.Hash{})
			return
		}
		_, peaks := grownPeaks(treesOf(n), r.Peaks(), hashAt(1))
		mustAppend(t, r, hashAt(1))
		if r.Size() != n+1 || !slices.Equal(r.Peaks(), peaks) {
			t.Errorf("%d leaves and one: %d, or other peaks", n, r.Size())
		}
	})
}

func BenchmarkAppend(b *testing.B) {
	l := listOf(1 << 12)
	for b.Loop() {
		compact.New().Append(l...)
	}
}

func BenchmarkRoot(b *testing.B) {
	r := compact.New()
	r.Append(listOf(1<<12 - 1)...)
	for b.Loop() {
		r.Root()
	}
}
