package collide

import (
	"slices"

	"syngraph/merkle"
	"syngraph/sha"
	"syngraph/tag"
)

// grown tells the collision of two lists that differ where they should not, by a proof that has the part with it. The lists have the roots that the proof leads to; so from the top down, as long as both have the halves that the proof says, what is left of them has the roots that the rest of the proof leads to. Where the old list has a whole half, both lists have one root there; and at last both have one root as they are.
func grown(old, new [][]byte, p []sha.Hash) Collision {
	for len(old) < len(new) {
		k, last := merkle.Split(len(new)), len(p)-1
		h, rest := p[last], p[:last]
		if len(old) <= k {
			_, second := led(len(old), k, rest)
			if c, found := halvesOf(new).against(halves{second, h}); found {
				return c
			}
			new = new[:k]
		} else {
			first, second := led(len(old)-k, len(new)-k, rest)
			if c, found := halvesOf(old).against(halves{h, first}); found {
				return c
			}
			if c, found := halvesOf(new).against(halves{h, second}); found {
				return c
			}
			if c, found := Lists(old[:k], new[:k]); found {
				return c
			}
			old, new = old[k:], new[k:]
		}
		p = rest
	}
	c, _ := Lists(old, new)
	return c
}

// withPart tells a right proof from m, at least one, with the root of the part of n that the first m end with ahead of the others. A proof leaves this root out where that part is all of the m: where these are all of n, or a power of two, which no split parts.
func withPart(m, n int, old sha.Hash, p []sha.Hash) []sha.Hash {
	if m == n || m&(m-1) == 0 {
		return slices.Concat([]sha.Hash{old}, p)
	}
	return p
}

// led tells the roots of the first m and of all n that a proof leads to, which has the part with it.
func led(m, n int, p []sha.Hash) (first, second sha.Hash) {
	if m == n {
		return p[0], p[0]
	}
	k, last := merkle.Split(n), len(p)-1
	if m <= k {
		first, second = led(m, k, p[:last])
		return first, tag.Node(second, p[last])
	}
	first, second = led(m-k, n-k, p[:last])
	return tag.Node(p[last], first), tag.Node(p[last], second)
}
