package collide

import (
	"syngraph/merkle"
	"syngraph/sha"
	"syngraph/tag"
)

// The kinds of what collides, by layer 2's numbers.
const (
	leafKind = 0
	nodeKind = 1
)

// halves are the two hashes that a node is the sum of, the left one first.
type halves [2]sha.Hash

// halvesOf tells the halves of a leaf list, which has at least two leaves.
func halvesOf(l [][]byte) halves {
	k := merkle.Split(len(l))
	return halves{root(l[:k]), root(l[k:])}
}

// input tells the bytes whose sum is the node of the halves.
func (h halves) input() []byte {
	return tag.Input(nodeKind, h[0][:], h[1][:])
}

// against tells, of two halves that have one node, the collision that they are, if they differ.
func (h halves) against(o halves) (c Collision, found bool) {
	if h == o {
		return Collision{}, false
	}
	return Collision{A: h.input(), B: o.input()}, true
}
