package wire_test

import (
	"bytes"
	"slices"
	"testing"

	"syngraph/sha"
	"syngraph/wire"
)

// spoilBytes fills a list with other bytes, its spare room too.
func spoilBytes(b []byte) {
	b = b[:cap(b)]
	for i := range b {
		b[i] = 0xee
	}
}

// spoilHashes fills a list with other hashes, its spare room too.
func spoilHashes(l []sha.Hash) {
	l = l[:cap(l)]
	for i := range l {
		l[i] = sha.Hash{0xee, 31: 0xee}
	}
}

// P3.3: what is handed in, its spare room too, is the same behind each call.
func TestHandedInNotChanged(t *testing.T) {
	for _, n := range []int{0, 1, 4, 32, 200} {
		whole, hashes := pattern(n+100, 1), hashesAt(n+5)
		var o wire.Out
		o.Bytes(whole[:n]).Hashes(hashes[:n]).Bytes(whole[:n]).Hash(hashes[0]).Hashes(hashes[:n/2]).Int(1).Bool(true)
		o.All()
		if !bytes.Equal(whole, pattern(n+100, 1)) || !slices.Equal(hashes, hashesAt(n+5)) {
			t.Errorf("%d bytes or hashes that were put, or what is behind them, were changed", n)
		}
	}
	whole := append(mixed(), pattern(100, 1)...)
	for cut := range len(mixed()) + 1 {
		i := wire.NewIn(whole[:cut])
		i.Bool()
		i.Int()
		spoilBytes(i.Bytes(2))
		i.Text(0)
		i.Hash()
		spoilHashes(i.Hashes(1))
		spoilHashes(i.Hashes(0))
		i.Bool()
		i.Bool()
		spoilBytes(i.Bytes(3))
		i.Bool()
		i.Count(-1, -1)
		if i.Done() != (cut == len(mixed())) {
			t.Errorf("cut off at %d: Done %t", cut, i.Done())
		}
		if !bytes.Equal(whole, append(mixed(), pattern(100, 1)...)) {
			t.Fatalf("bytes that are read, or what is behind them, were changed")
		}
	}
}

// P3.3: changing what was put changes nothing that an Out tells later.
func TestPutNotKept(t *testing.T) {
	b, l, h := []byte("abc"), hashesAt(2), hashAt(5)
	want := slices.Concat([]byte("\x00\x00\x00\x03abc\x00\x00\x00\x02"), joined(l), h[:])
	var o wire.Out
	o.Bytes(b).Hashes(l).Hash(h)
	spoilBytes(b)
	spoilHashes(l)
	clear(h[:])
	expectAll(t, "behind the change", &o, want)
	var only wire.Out
	first := pattern(100, 1)
	only.Bytes(first)
	spoilBytes(first)
	expectAll(t, "one list alone", &only, append([]byte{0, 0, 0, 100}, pattern(100, 1)...))
}

// P3.3: changing what NewIn was handed changes nothing that it tells later.
func TestReadNotKept(t *testing.T) {
	b := mixed()
	i := wire.NewIn(b)
	spoilBytes(b)
	if !i.Bool() || i.Int() != 258 {
		t.Errorf("bytes that are read were kept")
	}
	b = new(wire.Out).Bytes([]byte("one")).Bytes([]byte("two")).Hashes(hashesAt(2)).Hash(hashAt(3)).All()
	i = wire.NewIn(b)
	one := i.Bytes(3)
	spoilBytes(b)
	if string(one) != "one" || string(i.Bytes(3)) != "two" || !slices.Equal(i.Hashes(2), hashesAt(2)) || i.Hash() != hashAt(3) || !i.Done() {
		t.Errorf("bytes that are read were kept behind the first of them")
	}
}

// P3.3: what All told is the caller's own, and what is put later doesn't reach it.
func TestAllIsNew(t *testing.T) {
	var o wire.Out
	var want []byte
	for n := range 100 {
		o.Bool(n%2 == 0)
		want = append(want, byte(1-n%2))
		first, second := o.All(), o.All()
		spoilBytes(first)
		if !bytes.Equal(second, want) {
			t.Fatalf("changing what All told changed another answer")
		}
		expectAll(t, "behind the change", &o, want)
		o.Int(n)
		if !bytes.Equal(second, want) {
			t.Fatalf("what was put later is in what All told")
		}
		want = append(want, 0, 0, 0, 0, 0, 0, 0, byte(n))
		expectAll(t, "behind what was put", &o, want)
		_ = append(second, 0xee, 0xee, 0xee)
		expectAll(t, "behind what was put to an answer", &o, want)
	}
}

// P3.3: what Bytes and Hashes told is the caller's own, its spare room too.
func TestToldIsNew(t *testing.T) {
	var o wire.Out
	for n := range 70 {
		o.Bytes(pattern(n, 1)).Hashes(hashesAt(n % 5)).Text("text")
	}
	all := o.All()
	i := wire.NewIn(all)
	var lists [][]byte
	for n := range 70 {
		b, l := i.Bytes(n), i.Hashes(n%5)
		if !bytes.Equal(b, pattern(n, 1)) || !slices.Equal(l, hashesAt(n%5)) {
			t.Fatalf("at %d, behind changes: %v, %v", n, b, l)
		}
		lists = append(lists, slices.Clone(b), b)
		spoilHashes(l)
		if n%2 == 0 {
			spoilBytes(b)
			copy(lists[2*n], b)
		}
		if s := i.Text(4); s != "text" {
			t.Fatalf("at %d, behind changes: %q", n, s)
		}
	}
	if !i.Done() || !bytes.Equal(all, o.All()) {
		t.Errorf("changing what was told changed what is read")
	}
	for n := range 70 {
		if !bytes.Equal(lists[2*n], lists[2*n+1]) {
			t.Errorf("changing what was told later changed the bytes at %d", n)
		}
	}
}

// P3.3: two Ins of the same bytes don't touch one another.
func TestInsApart(t *testing.T) {
	b := new(wire.Out).Bytes([]byte("abc")).Hashes(hashesAt(1)).All()
	i, j := wire.NewIn(b), wire.NewIn(b)
	spoilBytes(i.Bytes(3))
	spoilHashes(i.Hashes(1))
	i.Bool()
	if string(j.Bytes(3)) != "abc" || !slices.Equal(j.Hashes(1), hashesAt(1)) || !j.Done() {
		t.Errorf("what one In told is shared with another one")
	}
}
