package compact_test

import (
	"bytes"
	"slices"
	"testing"

	"syngraph/api"
	"syngraph/compact"
	"syngraph/sha"
)

// spoilBytes fills bytes with other ones, their spare room too.
func spoilBytes(b []byte) {
	b = b[:cap(b)]
	for i := range b {
		b[i] = 0xee
	}
}

// spoilHashes fills a list with other hashes, its spare room too.
func spoilHashes(l []sha.Hash) {
	l = l[:cap(l)]
	for i := range l {
		l[i] = sha.Hash{0xee, 31: 0xee}
	}
}

// P9.3: leaves that are handed in, and what is behind them, are the same behind each call, a refused one too.
func TestLeavesNotChanged(t *testing.T) {
	whole := listOf(2 * most)
	for n := range most {
		for _, ahead := range []int{0, 1, 3, 7, 8} {
			r := rangeOf(t, listOf(ahead))
			mustAppend(t, r, whole[:n]...)
			mustAppend(t, r, whole[n:n+2]...)
			r.Root()
			r.Copy().Append(whole[:n]...)
			spoilHashes(r.Peaks())
			filledTo(t, api.MaxLeaves).Append(whole[:n]...)
		}
		if !slices.Equal(whole, listOf(2*most)) {
			t.Fatalf("%d leaves, or what is behind them, were changed", n)
		}
	}
}

// P9.3: changing leaves that were handed in changes nothing of the range, a lone leaf among them, and a leaf that is a peak.
func TestLeavesNotKept(t *testing.T) {
	for n := range most {
		for _, first := range []int{0, 1, n / 2} {
			first = min(first, n)
			l := listOf(n)
			r := rangeOf(t, l[:first])
			spoilHashes(l[:first:first])
			mustAppend(t, r, l[first:]...)
			spoilHashes(l)
			expectRange(t, "leaves changed behind", r, listOf(n))
			mustAppend(t, r, hashAt(n))
			expectRange(t, "leaves changed behind, and one more", r, listOf(n+1))
		}
	}
}

// P9.3: what the range does later doesn't reach leaves that were handed in, nor their spare room.
func TestLeavesNotReached(t *testing.T) {
	for n := range 20 {
		room := listOf(2 * most)
		r := compact.New()
		mustAppend(t, r, room[:n]...)
		for i := range most {
			mustAppend(t, r, hashAt(5000+i))
		}
		if !slices.Equal(room, listOf(2*most)) {
			t.Fatalf("going on behind %d leaves changed them, or what is behind them", n)
		}
	}
}

// P9.3: bytes that are read, and what is behind them, are the same behind the call and when the range goes on.
func TestReadNotChanged(t *testing.T) {
	for n := range most {
		b := bytesOf(n, peaksOf(listOf(n)))
		whole := append(slices.Clone(b), bytes.Repeat([]byte{7}, 100)...)
		same := slices.Clone(whole)
		r := mustParse(t, whole[:len(b)])
		mustAppend(t, r, listOf(9)...)
		spoilHashes(r.Peaks())
		spoilBytes(r.Bytes())
		for cut := range len(b) {
			compact.Parse(whole[:cut])
		}
		compact.Parse(whole)
		if !bytes.Equal(whole, same) {
			t.Fatalf("the bytes of %d leaves, or what is behind them, were changed", n)
		}
	}
}

// P9.3: changing bytes that were read changes nothing of the range, and two ranges of the same bytes don't touch one another.
func TestReadNotKept(t *testing.T) {
	for n := range most {
		l := listOf(n)
		b := bytesOf(n, peaksOf(l))
		r, o := mustParse(t, b), mustParse(t, b)
		spoilBytes(b)
		expectRange(t, "bytes changed behind", r, l)
		mustAppend(t, r, hashAt(n), hashAt(n+1))
		expectRange(t, "bytes changed behind, and two more", r, listOf(n+2))
		expectRange(t, "another one of the same bytes", o, l)
	}
}

// P9.3: peaks that were told are the caller's own, their spare room too: changing them changes nothing of the range, of a copy or of other ones that were told, and the range doesn't reach them.
func TestToldPeaksAreNew(t *testing.T) {
	for n := range most {
		l := listOf(n)
		r := rangeOf(t, l)
		o := r.Copy()
		first, second := r.Peaks(), r.Peaks()
		spoilHashes(append(first, hashAt(1)))
		spoilHashes(first)
		if !slices.Equal(second, peaksOf(l)) {
			t.Fatalf("changing the peaks of %d leaves changed other ones", n)
		}
		expectRange(t, "told peaks changed", r, l)
		expectRange(t, "told peaks changed, a copy", o, l)
		for i := range 9 {
			mustAppend(t, r, hashAt(n+i))
		}
		if !slices.Equal(second, peaksOf(l)) {
			t.Fatalf("going on behind %d leaves changed peaks that were told", n)
		}
		spoilHashes(second)
		expectRange(t, "told peaks changed, and nine more", r, listOf(n+9))
	}
}

// P9.3: bytes that were told are the caller's own, their spare room too, and the range doesn't reach them.
func TestToldBytesAreNew(t *testing.T) {
	for n := range most {
		l := listOf(n)
		want := bytesOf(n, peaksOf(l))
		r := rangeOf(t, l)
		first, second := r.Bytes(), r.Bytes()
		spoilBytes(append(first, 1))
		spoilBytes(first)
		if !bytes.Equal(second, want) {
			t.Fatalf("changing the bytes of %d leaves changed other ones", n)
		}
		expectRange(t, "told bytes changed", r, l)
		mustAppend(t, r, hashAt(n), hashAt(n+1))
		if !bytes.Equal(second, want) {
			t.Fatalf("going on behind %d leaves changed bytes that were told", n)
		}
	}
}

// P9.3: a copy shares nothing with what it was made of, at any size and whatever spare room there is: both go on in turns, over peaks that are joined and put anew.
func TestCopySharesNothing(t *testing.T) {
	r := compact.New()
	var l []sha.Hash
	for n := range most {
		o, same := r.Copy(), slices.Clone(l)
		for i := range 5 {
			mustAppend(t, o, hashAt(9000+i))
			same = append(same, hashAt(9000+i))
			expectRange(t, "behind its copy's leaves", r, l)
		}
		l = append(l, hashAt(n))
		mustAppend(t, r, hashAt(n))
		expectRange(t, "a copy behind its maker's leaf", o, same)
	}
}

// P9.3 and the rule that nothing else is kept: ranges stand for themselves alone.
func TestRangesApart(t *testing.T) {
	var ranges []*compact.Range
	for range 5 {
		ranges = append(ranges, compact.New())
	}
	for i := range 100 {
		mustAppend(t, ranges[i%5], hashAt(i))
	}
	for k, r := range ranges {
		var l []sha.Hash
		for i := k; i < 100; i += 5 {
			l = append(l, hashAt(i))
		}
		expectRange(t, "one of five", r, l)
	}
}
