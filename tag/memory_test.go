package tag_test

import (
	"bytes"
	"slices"
	"testing"

	"syngraph/sha"
	"syngraph/tag"
)

// P2.3: what is handed in, its spare room too, is the same behind each call.
func TestHandedInNotChanged(t *testing.T) {
	for _, n := range []int{0, 1, 32, 55, 64, 200} {
		whole := pattern(n+100, 1)
		part := whole[:n]
		tag.Leaf(part)
		tag.Message(part)
		tag.File(part)
		tag.Record(hashAt(1), part)
		tag.Input(3, part, part[n/2:], part[:n/2])
		if !bytes.Equal(whole, pattern(n+100, 1)) {
			t.Errorf("%d bytes that were handed in, or what is behind them, were changed", n)
		}
	}
	a, b := hashAt(1), hashAt(2)
	tag.Node(a, b)
	tag.Chain(a, 1, 2)
	tag.Secret(b, 1, 2)
	tag.Record(a, nil)
	if a != hashAt(1) || b != hashAt(2) {
		t.Errorf("a hash that was handed in was changed")
	}
}

// P2.3: lists that are handed in, their spare room too, are the same behind the calls.
func TestListsNotChanged(t *testing.T) {
	hashes := []sha.Hash{hashAt(1), hashAt(2), hashAt(3)}
	for n := range 3 {
		tag.Public(hashes[:n])
	}
	if !slices.Equal(hashes, []sha.Hash{hashAt(1), hashAt(2), hashAt(3)}) {
		t.Errorf("hashes that were handed in were changed")
	}
	parts := [][]byte{[]byte("ab"), nil, []byte("c"), []byte("behind")}
	tag.Input(1, parts[:3]...)
	if len(parts[0]) != 2 || parts[1] != nil || string(slices.Concat(parts...)) != "abcbehind" {
		t.Errorf("parts that were handed in were changed: %v", parts)
	}
}

// P2.3: changing what was handed in changes nothing that was told.
func TestHandedInNotKept(t *testing.T) {
	b, h := []byte("abc"), hashAt(1)
	hashes := []sha.Hash{h, hashAt(2)}
	one, two := tag.Input(9, b), tag.Input(9, b, h[:])
	parts := [][]byte{b, h[:]}
	listed := tag.Input(9, parts...)
	sums := []sha.Hash{tag.Leaf(b), tag.Message(b), tag.File(b), tag.Record(h, b), tag.Public(hashes)}
	first := slices.Clone(sums)
	clear(b)
	clear(h[:])
	clear(hashes)
	clear(parts)
	behind := hashAt(1)
	want := append([]byte("\x09abc"), behind[:]...)
	if string(one) != "\x09abc" || !bytes.Equal(two, want) || !bytes.Equal(listed, want) {
		t.Errorf("Input kept what was handed in: %v, %v, %v", one, two, listed)
	}
	if !slices.Equal(sums, first) {
		t.Errorf("a sum changed")
	}
	h = hashAt(1)
	again := []sha.Hash{tag.Leaf([]byte("abc")), tag.Message([]byte("abc")), tag.File([]byte("abc")), tag.Record(h, []byte("abc")), tag.Public([]sha.Hash{h, hashAt(2)})}
	if !slices.Equal(again, first) {
		t.Errorf("what was handed in first stayed in what is told later")
	}
}

// P2.3: what Input told is the caller's own, its spare room too: filling it changes nothing that is told later.
func TestToldIsNew(t *testing.T) {
	b, h := []byte("abc"), hashAt(1)
	for _, l := range [][][]byte{nil, {nil}, {b}, {nil, b, nil}, {b, h[:]}, {b, b}} {
		want := append([]byte{7}, slices.Concat(l...)...)
		first, second := tag.Input(7, l...), tag.Input(7, l...)
		first = first[:cap(first)]
		for i := range first {
			first[i] = 0xee
		}
		if string(b) != "abc" || h != hashAt(1) {
			t.Errorf("Input of %v shares memory with what was handed in", l)
		}
		if !bytes.Equal(second, want) || !bytes.Equal(tag.Input(7, l...), want) {
			t.Errorf("changing what Input of %v told changed another answer", l)
		}
	}
	sum := tag.Leaf(b)
	clear(sum[:])
	if tag.Leaf(b) != plain(0, b) {
		t.Errorf("changing a sum changed another one")
	}
}

// P2.3 and the rule that nothing is kept: one call's answer doesn't hang on those ahead of it.
func TestNothingIsKept(t *testing.T) {
	a, b := hashAt(1), hashAt(2)
	for range 3 {
		expect(t, "Leaf", tag.Leaf([]byte("x")), plain(0, []byte("x")))
		expect(t, "Node", tag.Node(a, b), plain(1, a[:], b[:]))
		expect(t, "Chain", tag.Chain(a, 1, 2), plain(2, a[:], []byte{0, 1, 0, 2}))
		expect(t, "Secret", tag.Secret(a, 1, 2), plain(3, a[:], []byte{0, 0, 0, 1, 0, 0, 0, 2}))
		expect(t, "Public", tag.Public([]sha.Hash{a}), plain(4, a[:]))
		expect(t, "Record", tag.Record(a, []byte("x")), plain(7, a[:], []byte("x")))
	}
}
