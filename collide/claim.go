package collide

import (
	"syngraph/merkle"
	"syngraph/proof"
	"syngraph/sha"
	"syngraph/tag"
)

// claimed tells the collision of a claim of another leaf than the one that stands there. The list and the path lead to one root; so from the top down, as long as both have the same halves, the halves that have the leaf lead to one root again, and at last both leaves have one hash.
func claimed(l [][]byte, x Claim) Collision {
	leaf := tag.Leaf(x.Leaf)
	i, path := x.Index, x.Path
	for len(l) > 1 {
		if c, found := halvesOf(l).against(saidHalves(leaf, i, len(l), path)); found {
			return c
		}
		if k := merkle.Split(len(l)); i < k {
			l = l[:k]
		} else {
			l, i = l[k:], i-k
		}
		path = path[:len(path)-1]
	}
	return Collision{A: tag.Input(leafKind, l[0]), B: tag.Input(leafKind, x.Leaf)}
}

// saidHalves tells the two halves of a list of n, at least two, that the path of its leaf i leads to.
func saidHalves(leaf sha.Hash, i, n int, path []sha.Hash) halves {
	k, last := merkle.Split(n), len(path)-1
	if i < k {
		inner, _ := proof.Lead(leaf, i, k, path[:last])
		return halves{inner, path[last]}
	}
	inner, _ := proof.Lead(leaf, i-k, n-k, path[:last])
	return halves{path[last], inner}
}
