package merkle_test

import (
	"slices"
	"testing"

	"syngraph/api"
	"syngraph/merkle"
	"syngraph/sha"
	"syngraph/tag"
)

// P7.3: what is handed in, its spare room too, is the same behind each call.
func TestHandedInNotChanged(t *testing.T) {
	whole := listOf(2 * most)
	for n := range most {
		l := whole[:n]
		merkle.Root(l)
		for range merkle.Each(l) {
		}
		for i := -1; i <= n+1; i++ {
			merkle.Path(l, i)
			merkle.Proof(l, i)
		}
		if !slices.Equal(whole, listOf(2*most)) {
			t.Fatalf("a list of %d, or what is behind it, was changed", n)
		}
	}
}

// P7.3: leaves that are handed in are the same behind the call, with what is behind their bytes.
func TestLeavesNotChanged(t *testing.T) {
	room := []byte("abcdefgh")
	l := [][]byte{room[:0], room[:3], room[2:5], nil, room[7:], []byte("behind")}
	merkle.Leaves(l[:5])
	if string(room) != "abcdefgh" || string(l[5]) != "behind" || l[3] != nil {
		t.Errorf("Leaves changed %q, %q", room, l)
	}
	for i, want := range []string{"", "abc", "cde", "", "h"} {
		if string(l[i]) != want {
			t.Errorf("Leaves changed the leaf %d to %q", i, l[i])
		}
	}
}

// P7.3: changing what was handed in changes nothing that was told, or is told later.
func TestHandedInNotKept(t *testing.T) {
	for n := 1; n < 20; n++ {
		same := listOf(n)
		for i := range n {
			l := listOf(n)
			root, path, proof := merkle.Root(l), mustPath(t, l, i), mustProof(t, l, i)
			clear(l)
			if root != rootOf(same) || !slices.Equal(path, pathOf(same, i)) || !slices.Equal(proof, proofOf(same, i)) {
				t.Fatalf("what was told of %d at %d hangs on the list", n, i)
			}
			if merkle.Root(l) != rootOf(l) || !slices.Equal(mustPath(t, l, i), pathOf(l, i)) || !slices.Equal(mustProof(t, l, i), proofOf(l, i)) {
				t.Fatalf("what is told of %d at %d goes by what the list was", n, i)
			}
		}
	}
}

// P7.3: leaves are not kept.
func TestLeavesNotKept(t *testing.T) {
	b := []byte("leaf")
	l := merkle.Leaves([][]byte{b, b})
	clear(b)
	if want := tag.Leaf([]byte("leaf")); l[0] != want || l[1] != want {
		t.Errorf("Leaves kept what was handed in")
	}
	if again := merkle.Leaves([][]byte{b}); again[0] != tag.Leaf(b) {
		t.Errorf("Leaves goes by what was handed in earlier")
	}
}

// P7.3: what was told is the caller's own, its spare room too: filling it changes no list that was handed in, and nothing else that was told or is told later.
func TestToldIsNew(t *testing.T) {
	for n := 1; n < 20; n++ {
		whole := listOf(2 * n)
		l, same := whole[:n], listOf(n)
		for i := range n + 1 {
			for _, ask := range []func() ([]sha.Hash, api.Errno){
				func() ([]sha.Hash, api.Errno) { return merkle.Path(l, i) },
				func() ([]sha.Hash, api.Errno) { return merkle.Proof(l, i) },
			} {
				one, _ := ask()
				other, _ := ask()
				want := slices.Clone(other)
				clear(one[:cap(one)])
				again, _ := ask()
				if !slices.Equal(other, want) || !slices.Equal(again, want) {
					t.Fatalf("changing what was told of %d at %d changed another one", n, i)
				}
			}
		}
		if !slices.Equal(whole, listOf(2*n)) || merkle.Root(l) != rootOf(same) {
			t.Fatalf("changing what was told of %d changed the list", n)
		}
	}
}

// P7.3: the hashes of leaves are the caller's own, their spare room too.
func TestToldLeavesAreNew(t *testing.T) {
	leaves := [][]byte{[]byte("a"), nil, []byte("c")}
	one, other := merkle.Leaves(leaves), merkle.Leaves(leaves)
	want := slices.Clone(other)
	clear(one[:cap(one)])
	if !slices.Equal(other, want) || !slices.Equal(merkle.Leaves(leaves), want) {
		t.Errorf("changing the hashes of leaves changed other ones")
	}
}

// P7.3 and the rule that nothing is kept: a call's answer doesn't hang on those ahead of it, refused ones among them.
func TestNothingIsKept(t *testing.T) {
	l := listOf(12)
	for range 3 {
		if merkle.Root(l) != rootOf(l) || !slices.Equal(mustPath(t, l, 9), pathOf(l, 9)) || !slices.Equal(mustProof(t, l, 9), proofOf(l, 9)) {
			t.Errorf("a call tells something else at another time")
		}
		merkle.Path(l, 12)
		merkle.Proof(l, -1)
		merkle.Root(l[:5])
		for range merkle.Each(l[3:]) {
		}
	}
}
