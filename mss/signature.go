package mss

import (
	"slices"

	"syngraph/api"
	"syngraph/lamport"
	"syngraph/sha"
	"syngraph/tag"
	"syngraph/wire"
	"syngraph/wots"
)

// Signature is one by an index of a key.
type Signature struct {
	Kind  int
	Index int
	Parts []sha.Hash
	Path  []sha.Hash
}

// Verify tells OK, if s is a signature of msg by a key of this kind and height with this public key.
func Verify(public sha.Hash, kind, height int, msg []byte, s Signature) api.Errno {
	if !isKey(kind, height) {
		return api.ErrRange
	}
	if s.Kind != kind || s.Index < 0 || s.Index >= indexes(height) || len(s.Path) != height {
		return api.ErrSign
	}
	one, e := s.recovered(tag.Message(msg))
	if e != api.OK || s.ledUp(tag.Leaf(one[:])) != public {
		return api.ErrSign
	}
	return api.OK
}

// recovered tells the public key in layer 4 or 5 that the parts lead to, or that layer's error.
func (s Signature) recovered(h sha.Hash) (sha.Hash, api.Errno) {
	if s.Kind == byChains {
		return wots.Recover(h, s.Parts)
	}
	return lamport.Recover(h, s.Parts)
}

// ledUp tells the root that a leaf and the path make. Whether a hash is the left half or the right one hangs on the index alone.
func (s Signature) ledUp(leaf sha.Hash) sha.Hash {
	root := leaf
	for level, beside := range s.Path {
		if s.Index>>level&1 == 0 {
			root = tag.Node(root, beside)
		} else {
			root = tag.Node(beside, root)
		}
	}
	return root
}

// Bytes tells the signature's bytes.
func (s Signature) Bytes() []byte {
	var o wire.Out
	return o.Int(s.Kind).Int(s.Index).Hashes(s.Parts).Hashes(s.Path).All()
}

// Parse tells the signature whose bytes b are. It holds each field against the bounds of all keys, since it doesn't know whose signature it is: Verify does.
func Parse(b []byte) (Signature, api.Errno) {
	i := wire.NewIn(b)
	var s Signature
	s.Kind = i.Count(byChains, byPairs)
	s.Index = i.Count(0, indexes(api.MaxHeight)-1)
	s.Parts = i.Hashes(lamport.Parts)
	s.Path = i.Hashes(api.MaxHeight)
	if !i.Done() {
		return Signature{}, api.ErrForm
	}
	return s, api.OK
}

// Equal tells whether both are one signature.
func (s Signature) Equal(o Signature) bool {
	return s.Kind == o.Kind && s.Index == o.Index && slices.Equal(s.Parts, o.Parts) && slices.Equal(s.Path, o.Path)
}
