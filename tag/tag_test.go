package tag_test

import (
	"bytes"
	"math"
	"slices"
	"testing"

	"syngraph/sha"
	"syngraph/tag"
)

// pattern tells n bytes, which hang on first.
func pattern(n int, first byte) []byte {
	b := make([]byte, n)
	for i := range b {
		b[i] = first + byte(i*7+i/64*31)
	}
	return b
}

// hashAt tells a hash with no two bytes alike, another one for each i.
func hashAt(i int) sha.Hash {
	return sha.Hash(pattern(32, byte(i*3+1)))
}

// plain is layer 1's sum of a kind's byte and the parts, one behind the other.
func plain(kind byte, parts ...[]byte) sha.Hash {
	all := []byte{kind}
	for _, p := range parts {
		all = append(all, p...)
	}
	return sha.Sum(all)
}

// expect tells the test that got isn't the sum that the document says.
func expect(t *testing.T, what string, got, want sha.Hash) {
	t.Helper()
	if got != want {
		t.Errorf("%s: %s, not %s", what, got.Show(), want.Show())
	}
}

// P2.1: the document's example.
func TestLeafOfNothing(t *testing.T) {
	const want = "6e340b9cffb37a989ca544e6bb780a2c78901d3fb33738768511a30617afa01d"
	for _, b := range [][]byte{nil, {}} {
		if got := tag.Leaf(b).Show(); got != want {
			t.Errorf("Leaf of nothing: %s, not %s", got, want)
		}
	}
}

// P2.1: the calls that take bytes, at lengths around the blocks of layer 1, and a leaf of the greatest length.
func TestOfBytes(t *testing.T) {
	ahead := hashAt(5)
	for _, n := range []int{0, 1, 2, 31, 32, 33, 54, 55, 63, 64, 65, 128, 1000, 1 << 16} {
		b := pattern(n, 250)
		expect(t, "Leaf", tag.Leaf(b), plain(0, b))
		expect(t, "Message", tag.Message(b), plain(5, b))
		expect(t, "File", tag.File(b), plain(6, b))
		expect(t, "Record", tag.Record(ahead, b), plain(7, ahead[:], b))
	}
	expect(t, "Message of nil", tag.Message(nil), plain(5))
	expect(t, "File of nil", tag.File(nil), plain(6))
	expect(t, "Record of nil", tag.Record(ahead, nil), plain(7, ahead[:]))
	expect(t, "Record behind none", tag.Record(sha.Hash{}, []byte("x")), plain(7, make([]byte, 32), []byte("x")))
}

// P2.1: the left half comes first.
func TestNode(t *testing.T) {
	a, b := hashAt(1), hashAt(2)
	expect(t, "Node", tag.Node(a, b), plain(1, a[:], b[:]))
	expect(t, "Node, turned", tag.Node(b, a), plain(1, b[:], a[:]))
	expect(t, "Node of one twice", tag.Node(a, a), plain(1, a[:], a[:]))
	expect(t, "Node of noughts", tag.Node(sha.Hash{}, sha.Hash{}), plain(1, make([]byte, 64)))
}

// P2.1: two bytes for each number, the higher first; modulo 2^16 beyond the bounds and below nought.
func TestChain(t *testing.T) {
	h := hashAt(3)
	numbers := []struct {
		n    int
		want []byte
	}{
		{0, []byte{0, 0}},
		{1, []byte{0, 1}},
		{255, []byte{0, 255}},
		{256, []byte{1, 0}},
		{0x102, []byte{1, 2}},
		{0x7fff, []byte{0x7f, 0xff}},
		{0x8000, []byte{0x80, 0}},
		{1<<16 - 1, []byte{255, 255}},
		{1 << 16, []byte{0, 0}},
		{1<<16 + 1, []byte{0, 1}},
		{0x12345, []byte{0x23, 0x45}},
		{1<<31 - 1, []byte{255, 255}},
		{-1, []byte{255, 255}},
		{-2, []byte{255, 254}},
		{-256, []byte{255, 0}},
		{-1 << 16, []byte{0, 0}},
		{-1<<16 - 1, []byte{255, 255}},
		{math.MaxInt, []byte{255, 255}},
		{math.MinInt, []byte{0, 0}},
		{math.MinInt + 0x102, []byte{1, 2}},
	}
	for _, chain := range numbers {
		for _, step := range numbers {
			if got, want := tag.Chain(h, chain.n, step.n), plain(2, h[:], chain.want, step.want); got != want {
				t.Errorf("Chain at %d and %d: %s, not %s", chain.n, step.n, got.Show(), want.Show())
			}
		}
	}
	expect(t, "Chain of noughts", tag.Chain(sha.Hash{}, 0, 0), plain(2, make([]byte, 36)))
}

// P2.1: four bytes for each number, the highest first; modulo 2^32 beyond the bounds and below nought.
func TestSecret(t *testing.T) {
	seed := hashAt(4)
	numbers := []struct {
		n    int
		want []byte
	}{
		{0, []byte{0, 0, 0, 0}},
		{1, []byte{0, 0, 0, 1}},
		{256, []byte{0, 0, 1, 0}},
		{1 << 16, []byte{0, 1, 0, 0}},
		{1 << 24, []byte{1, 0, 0, 0}},
		{0x1020304, []byte{1, 2, 3, 4}},
		{1<<31 - 1, []byte{0x7f, 255, 255, 255}},
		{1 << 31, []byte{0x80, 0, 0, 0}},
		{1<<32 - 1, []byte{255, 255, 255, 255}},
		{1 << 32, []byte{0, 0, 0, 0}},
		{1<<32 + 1, []byte{0, 0, 0, 1}},
		{0x123456789a, []byte{0x34, 0x56, 0x78, 0x9a}},
		{-1, []byte{255, 255, 255, 255}},
		{-2, []byte{255, 255, 255, 254}},
		{-1 << 16, []byte{255, 255, 0, 0}},
		{-1 << 32, []byte{0, 0, 0, 0}},
		{-1<<32 - 1, []byte{255, 255, 255, 255}},
		{math.MaxInt, []byte{255, 255, 255, 255}},
		{math.MinInt, []byte{0, 0, 0, 0}},
		{math.MinInt + 0x1020304, []byte{1, 2, 3, 4}},
	}
	for _, key := range numbers {
		for _, part := range numbers {
			if got, want := tag.Secret(seed, key.n, part.n), plain(3, seed[:], key.want, part.want); got != want {
				t.Errorf("Secret at %d and %d: %s, not %s", key.n, part.n, got.Show(), want.Show())
			}
		}
	}
	expect(t, "Secret of noughts", tag.Secret(sha.Hash{}, 0, 0), plain(3, make([]byte, 40)))
}

// P2.1: of no hash, of one and of several.
func TestPublic(t *testing.T) {
	expect(t, "Public of nil", tag.Public(nil), plain(4))
	expect(t, "Public of none", tag.Public([]sha.Hash{}), plain(4))
	for _, n := range []int{1, 2, 3, 67, 256, 512} {
		var l []sha.Hash
		var all []byte
		for i := range n {
			h := hashAt(i)
			l = append(l, h)
			all = append(all, h[:]...)
		}
		expect(t, "Public", tag.Public(l), plain(4, all))
	}
	a := hashAt(1)
	expect(t, "Public of one twice", tag.Public([]sha.Hash{a, a}), plain(4, a[:], a[:]))
}

// P2.1: the kind modulo 256, with no part, with empty parts and with several.
func TestInput(t *testing.T) {
	kinds := []struct {
		kind int
		want byte
	}{
		{0, 0}, {1, 1}, {2, 2}, {3, 3}, {4, 4}, {5, 5}, {6, 6}, {7, 7}, {8, 8},
		{127, 127}, {128, 128}, {255, 255},
		{256, 0}, {257, 1}, {511, 255}, {512, 0}, {1 << 16, 0}, {1<<32 + 7, 7},
		{-1, 255}, {-2, 254}, {-255, 1}, {-256, 0}, {-257, 255},
		{math.MaxInt, 255}, {math.MinInt, 0}, {math.MinInt + 3, 3},
	}
	long := pattern(300, 9)
	lists := []struct {
		l    [][]byte
		want []byte
	}{
		{nil, nil},
		{[][]byte{}, nil},
		{[][]byte{nil}, nil},
		{[][]byte{{}, nil, {}}, nil},
		{[][]byte{{0}}, []byte{0}},
		{[][]byte{[]byte("ab"), nil, []byte("c")}, []byte("abc")},
		{[][]byte{nil, []byte("c"), []byte("ab"), {}}, []byte("cab")},
		{[][]byte{long, []byte("x"), long}, slices.Concat(long, []byte("x"), long)},
	}
	for _, k := range kinds {
		for _, c := range lists {
			want := append([]byte{k.want}, c.want...)
			if got := tag.Input(k.kind, c.l...); !bytes.Equal(got, want) {
				t.Errorf("Input(%d, %v): %v, not %v", k.kind, c.l, got, want)
			}
		}
	}
}

// P2.1: what Input tells is what the other calls sum.
func TestInputIsWhatIsSummed(t *testing.T) {
	a, b, text := hashAt(1), hashAt(2), []byte("text")
	for _, c := range []struct {
		got   sha.Hash
		input []byte
	}{
		{tag.Leaf(text), tag.Input(0, text)},
		{tag.Node(a, b), tag.Input(1, a[:], b[:])},
		{tag.Chain(a, 0x102, -1), tag.Input(2, a[:], []byte{1, 2}, []byte{255, 255})},
		{tag.Secret(a, 0x1020304, -1), tag.Input(3, a[:], []byte{1, 2, 3, 4}, []byte{255, 255, 255, 255})},
		{tag.Public([]sha.Hash{a, b}), tag.Input(4, a[:], b[:])},
		{tag.Message(text), tag.Input(5, text)},
		{tag.File(text), tag.Input(6, text)},
		{tag.Record(a, text), tag.Input(7, a[:], text)},
	} {
		expect(t, "what is summed", c.got, sha.Sum(c.input))
	}
}

// differ tells the test where two of the sums are one.
func differ(t *testing.T, what string, sums []sha.Hash) {
	t.Helper()
	for i, a := range sums {
		for j, b := range sums[:i] {
			if a == b {
				t.Errorf("%s: the sums at %d and %d are one", what, j, i)
			}
		}
	}
}

// P2.2: the same bytes behind the kind, of different kinds.
func TestKindsDiffer(t *testing.T) {
	a, b := hashAt(1), hashAt(2)
	ab := slices.Concat(a[:], b[:])
	differ(t, "two hashes", []sha.Hash{
		tag.Leaf(ab), tag.Node(a, b), tag.Public([]sha.Hash{a, b}), tag.Message(ab), tag.File(ab), tag.Record(a, b[:]), sha.Sum(ab),
	})
	step := slices.Concat(a[:], []byte{1, 2, 3, 4})
	differ(t, "a step of a chain", []sha.Hash{
		tag.Leaf(step), tag.Chain(a, 0x102, 0x304), tag.Message(step), tag.File(step), tag.Record(a, step[32:]),
	})
	part := slices.Concat(a[:], []byte{1, 2, 3, 4, 5, 6, 7, 8})
	differ(t, "a part of a key", []sha.Hash{
		tag.Leaf(part), tag.Secret(a, 0x1020304, 0x5060708), tag.Message(part), tag.File(part), tag.Record(a, part[32:]),
	})
	differ(t, "nothing", []sha.Hash{tag.Leaf(nil), tag.Public(nil), tag.Message(nil), tag.File(nil), sha.Sum(nil)})
	for k := range 256 {
		for o := range k {
			if bytes.Equal(tag.Input(k, ab), tag.Input(o, ab)) {
				t.Errorf("kinds %d and %d sum the same bytes", o, k)
			}
		}
	}
}

// P2.2: the calls that take bytes, where one byte differs, or one is there more.
func TestBytesDiffer(t *testing.T) {
	a, b := hashAt(1), hashAt(2)
	for name, call := range map[string]func([]byte) sha.Hash{
		"Leaf":    tag.Leaf,
		"Message": tag.Message,
		"File":    tag.File,
		"Record":  func(b []byte) sha.Hash { return tag.Record(a, b) },
	} {
		sums := []sha.Hash{call(nil), call([]byte{0}), call([]byte{0, 0})}
		for i := range 130 {
			with := pattern(130, 3)
			with[i] ^= 1
			sums = append(sums, call(with))
		}
		differ(t, name, append(sums, call(pattern(130, 3)), call(pattern(129, 3)), call(pattern(131, 3))))
	}
	differ(t, "Record behind two", []sha.Hash{tag.Record(a, []byte("x")), tag.Record(b, []byte("x"))})
}

// P2.2: the calls that take hashes and numbers, where one byte of a hash, one number or the order differs.
func TestHashesAndNumbersDiffer(t *testing.T) {
	a, b, c := hashAt(1), hashAt(2), hashAt(3)
	nodes := []sha.Hash{tag.Node(a, b), tag.Node(b, a), tag.Node(a, a), tag.Node(b, b)}
	publics := []sha.Hash{
		tag.Public([]sha.Hash{a, b, c}), tag.Public([]sha.Hash{a, c, b}), tag.Public([]sha.Hash{b, a, c}),
		tag.Public([]sha.Hash{a, b}), tag.Public([]sha.Hash{b, a}), tag.Public([]sha.Hash{a}), tag.Public(nil),
	}
	var chains, secrets, records []sha.Hash
	for i := range 32 {
		o := a
		o[i] ^= 128
		nodes = append(nodes, tag.Node(o, b), tag.Node(b, o))
		publics = append(publics, tag.Public([]sha.Hash{o, b, c}), tag.Public([]sha.Hash{b, c, o}))
		chains = append(chains, tag.Chain(o, 0, 0))
		secrets = append(secrets, tag.Secret(o, 0, 0))
		records = append(records, tag.Record(o, nil))
	}
	for _, x := range []int{0, 1, 2, 255, 256, 1<<16 - 1} {
		for _, y := range []int{0, 1, 2, 255, 256, 1<<16 - 1} {
			chains = append(chains, tag.Chain(a, x, y))
			secrets = append(secrets, tag.Secret(a, x<<16, y), tag.Secret(a, x, y<<16|1<<15))
		}
	}
	differ(t, "Node", nodes)
	differ(t, "Public", publics)
	differ(t, "Chain", chains)
	differ(t, "Secret", secrets)
	differ(t, "Record", records)
}

func BenchmarkChain(b *testing.B) {
	h := hashAt(1)
	for i := 0; b.Loop(); i++ {
		h = tag.Chain(h, 3, i)
	}
}
