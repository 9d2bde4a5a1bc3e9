package proof_test

import (
	"encoding/binary"
	"math"
	"slices"
	"testing"

	"syngraph/sha"
	"syngraph/tag"
)

// most is how long the lists get: beyond the powers of two 16, 32 and 64.
const most = 70

// hashAt tells one hash for each number.
func hashAt(i int) sha.Hash {
	return sha.Sum(binary.BigEndian.AppendUint64(nil, uint64(i)))
}

// listOf tells n hashes, each another one, with no spare room.
func listOf(n int) []sha.Hash {
	l := make([]sha.Hash, n)
	for i := range l {
		l[i] = hashAt(i)
	}
	return l
}

// splitOf reckons the split of a number above 1 by doubling.
func splitOf(n int) int {
	k := 1
	for k < n-k {
		k += k
	}
	return k
}

// rootOf reckons a root by layer 7's words.
func rootOf(l []sha.Hash) sha.Hash {
	switch len(l) {
	case 0:
		return sha.Sum([]byte{})
	case 1:
		return l[0]
	}
	k := splitOf(len(l))
	return tag.Node(rootOf(l[:k]), rootOf(l[k:]))
}

// pathOf reckons a path by layer 7's words.
func pathOf(l []sha.Hash, i int) []sha.Hash {
	if len(l) == 1 {
		return nil
	}
	k := splitOf(len(l))
	if i < k {
		return slices.Concat(pathOf(l[:k], i), []sha.Hash{rootOf(l[k:])})
	}
	return slices.Concat(pathOf(l[k:], i-k), []sha.Hash{rootOf(l[:k])})
}

// lengthOf reckons how many hashes a path has, by layer 7's words.
func lengthOf(i, n int) int {
	if n == 1 {
		return 0
	}
	k := splitOf(n)
	if i < k {
		return 1 + lengthOf(i, k)
	}
	return 1 + lengthOf(i-k, n-k)
}

// leadOf reckons the root that a path of the right length leads to, by the chapter's words.
func leadOf(leaf sha.Hash, i, n int, path []sha.Hash) sha.Hash {
	if n == 1 {
		return leaf
	}
	k, last := splitOf(n), len(path)-1
	if i < k {
		return tag.Node(leadOf(leaf, i, k, path[:last]), path[last])
	}
	return tag.Node(path[last], leadOf(leaf, i-k, n-k, path[:last]))
}

// subOf reckons layer 7's sub of a list.
func subOf(l []sha.Hash, m int, whole bool) []sha.Hash {
	if m == len(l) && whole {
		return nil
	}
	if m == len(l) {
		return []sha.Hash{rootOf(l)}
	}
	k := splitOf(len(l))
	if m <= k {
		return slices.Concat(subOf(l[:k], m, whole), []sha.Hash{rootOf(l[k:])})
	}
	return slices.Concat(subOf(l[k:], m-k, false), []sha.Hash{rootOf(l[:k])})
}

// proofOf reckons a proof by layer 7's words.
func proofOf(l []sha.Hash, m int) []sha.Hash {
	if m == 0 {
		return nil
	}
	return subOf(l, m, true)
}

// subLength reckons how many hashes layer 7's sub has.
func subLength(m, n int, whole bool) int {
	if m == n && whole {
		return 0
	}
	if m == n {
		return 1
	}
	k := splitOf(n)
	if m <= k {
		return 1 + subLength(m, k, whole)
	}
	return 1 + subLength(m-k, n-k, false)
}

// bothOf reckons the two roots of a proof of the right length, by the chapter's words.
func bothOf(m, n int, whole bool, old sha.Hash, proof []sha.Hash) (first, second sha.Hash) {
	if m == n && whole {
		return old, old
	}
	if m == n {
		return proof[0], proof[0]
	}
	k, last := splitOf(n), len(proof)-1
	if m <= k {
		first, second = bothOf(m, k, whole, old, proof[:last])
		return first, tag.Node(second, proof[last])
	}
	first, second = bothOf(m-k, n-k, false, old, proof[:last])
	return tag.Node(proof[last], first), tag.Node(proof[last], second)
}

// changed tells a hash that differs from h in one bit.
func changed(h sha.Hash, bit int) sha.Hash {
	bit &= 255
	h[bit/8] ^= 1 << (bit % 8)
	return h
}

// withChanged tells hashes of which the one at a place is another one.
func withChanged(l []sha.Hash, at int) []sha.Hash {
	other := slices.Clone(l)
	other[at] = changed(other[at], 11*at)
	return other
}

// oneLess tells hashes without one of them, for each place of that one.
func oneLess(l []sha.Hash) [][]sha.Hash {
	var all [][]sha.Hash
	for at := range l {
		all = append(all, slices.Concat(l[:at], l[at+1:]))
	}
	return all
}

// oneMore tells hashes with another one among them, for each place of that one.
func oneMore(l []sha.Hash, h sha.Hash) [][]sha.Hash {
	var all [][]sha.Hash
	for at := range len(l) + 1 {
		all = append(all, slices.Concat(l[:at], []sha.Hash{h}, l[at:]))
	}
	return all
}

// greatSizes tells sizes far beyond any list: at and about powers of two, and the greatest there is.
func greatSizes() []int {
	sizes := []int{math.MaxInt, math.MaxInt - 1, math.MaxInt - 2, math.MaxInt / 3, 0x5555555555555555, 0x123456789abcdef0}
	for i := 7; i < 63; i++ {
		n := 1 << i
		sizes = append(sizes, n-1, n, n+1)
	}
	return sizes
}

// placesIn tells numbers from 0 to n, of a great n: at both ends, about its split, about powers of two and about a half.
func placesIn(n int) []int {
	k := splitOf(n)
	places := []int{0, 1, 2, 3, n / 3, n / 2, n/2 + 1, k - 1, k, n - 3, n - 2, n - 1, n}
	if k < n-1 {
		places = append(places, k+1)
	}
	for i := 5; i < 63 && 1<<i < n-1; i += 19 {
		places = append(places, 1<<i-1, 1<<i, 1<<i+1, n-1<<i)
	}
	return places
}

// allHashes tells many hashes, some the same, some nought, for paths and proofs that belong to no list.
func allHashes(n int) []sha.Hash {
	l := listOf(n)
	for at := 3; at < n; at += 5 {
		l[at] = sha.Hash{}
	}
	for at := 6; at < n; at += 7 {
		l[at] = l[at-1]
	}
	return l
}

// The reckonings of this test belong together: what is led up is the root.
func TestReckonings(t *testing.T) {
	for n := range most {
		l := listOf(n)
		for i, h := range l {
			p := pathOf(l, i)
			if len(p) != lengthOf(i, n) || leadOf(h, i, n, p) != rootOf(l) {
				t.Fatalf("the path of %d in %d", i, n)
			}
		}
		for m := 1; m <= n; m++ {
			p := proofOf(l, m)
			first, second := bothOf(m, n, true, rootOf(l[:m]), p)
			if len(p) != subLength(m, n, true) || first != rootOf(l[:m]) || second != rootOf(l) {
				t.Fatalf("the proof from %d in %d", m, n)
			}
		}
	}
}
