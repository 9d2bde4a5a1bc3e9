// Package sha is layer 1: see shared/doc/01-sha.md.
package sha

// Hash is a sum.
type Hash [32]byte

// Digest is bytes that are summed. It keeps no more of them than the part of a block that isn't full yet.
type Digest struct {
	state  [8]uint32
	block  [blockSize]byte
	length int
}

// Sum tells the sum of b.
func Sum(b []byte) Hash {
	d := New()
	d.Write(b)
	return d.Sum()
}

// New makes a digest of no bytes.
func New() *Digest {
	return &Digest{state: firstState()}
}

// Write puts b behind the digest's bytes.
func (d *Digest) Write(b []byte) {
	used := d.length % blockSize
	d.length += len(b)
	if used > 0 {
		n := copy(d.block[used:], b)
		if used+n < blockSize {
			return
		}
		d.state = mixed(d.state, d.block[:])
		b = b[n:]
	}
	for len(b) >= blockSize {
		d.state = mixed(d.state, b[:blockSize])
		b = b[blockSize:]
	}
	copy(d.block[:], b)
}

// Sum tells the sum of all the digest's bytes. The padding goes into a copy, so that more may be written behind.
func (d *Digest) Sum() Hash {
	last := *d
	last.pad()
	return hashOf(last.state)
}

// Len tells how many bytes the digest has.
func (d *Digest) Len() int {
	return d.length
}

// Copy makes another digest with the same bytes.
func (d *Digest) Copy() *Digest {
	other := *d
	return &other
}

// pad writes the padding, behind which the bytes are a multiple of whole blocks.
func (d *Digest) pad() {
	// 1 byte of 128, at most 63 noughts, 8 bytes of the count
	var padding [1 + 63 + countSize]byte
	padding[0] = 128
	end := 1 + (2*blockSize-countSize-1-d.length%blockSize)%blockSize
	count := uint64(d.length) * 8
	for i := range countSize {
		padding[end+i] = byte(count >> (8 * (countSize - 1 - i)))
	}
	d.Write(padding[:end+countSize])
}

// hashOf tells the eight numbers as bytes, the highest byte of each first.
func hashOf(state [8]uint32) Hash {
	var h Hash
	for i, x := range state {
		h[4*i] = byte(x >> 24)
		h[4*i+1] = byte(x >> 16)
		h[4*i+2] = byte(x >> 8)
		h[4*i+3] = byte(x)
	}
	return h
}
