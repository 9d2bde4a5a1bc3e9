package wire_test

import (
	"bytes"
	"math"
	"slices"
	"strings"
	"testing"

	"syngraph/sha"
	"syngraph/wire"
)

// pattern tells n bytes, which hang on first.
func pattern(n int, first byte) []byte {
	b := make([]byte, n)
	for i := range b {
		b[i] = first + byte(i*7+i/64*31)
	}
	return b
}

// hashAt tells a hash with no two bytes alike, another one for each i.
func hashAt(i int) sha.Hash {
	return sha.Hash(pattern(32, byte(i*3+1)))
}

// hashesAt tells n hashes, no two of them alike up to 256.
func hashesAt(n int) []sha.Hash {
	l := make([]sha.Hash, n)
	for i := range l {
		l[i] = hashAt(i)
	}
	return l
}

// joined tells the bytes of hashes, one behind the other.
func joined(l []sha.Hash) []byte {
	var all []byte
	for _, h := range l {
		all = append(all, h[:]...)
	}
	return all
}

// expectAll tells the test that an Out doesn't have the bytes that the document says.
func expectAll(t *testing.T, what string, o *wire.Out, want []byte) {
	t.Helper()
	if got := o.All(); !bytes.Equal(got, want) {
		t.Errorf("%s: %v, not %v", what, got, want)
	}
}

// numbers are numbers and their bytes, at the bounds among them.
func numbers() map[int]string {
	return map[int]string{
		0:                  "\x00\x00\x00\x00\x00\x00\x00\x00",
		1:                  "\x00\x00\x00\x00\x00\x00\x00\x01",
		127:                "\x00\x00\x00\x00\x00\x00\x00\x7f",
		128:                "\x00\x00\x00\x00\x00\x00\x00\x80",
		255:                "\x00\x00\x00\x00\x00\x00\x00\xff",
		256:                "\x00\x00\x00\x00\x00\x00\x01\x00",
		258:                "\x00\x00\x00\x00\x00\x00\x01\x02",
		math.MaxInt32:      "\x00\x00\x00\x00\x7f\xff\xff\xff",
		math.MaxInt32 + 1:  "\x00\x00\x00\x00\x80\x00\x00\x00",
		math.MaxUint32:     "\x00\x00\x00\x00\xff\xff\xff\xff",
		math.MaxUint32 + 1: "\x00\x00\x00\x01\x00\x00\x00\x00",
		0x102030405060708:  "\x01\x02\x03\x04\x05\x06\x07\x08",
		math.MaxInt - 1:    "\x7f\xff\xff\xff\xff\xff\xff\xfe",
		math.MaxInt:        "\x7f\xff\xff\xff\xff\xff\xff\xff",
		-1:                 "\xff\xff\xff\xff\xff\xff\xff\xff",
		-2:                 "\xff\xff\xff\xff\xff\xff\xff\xfe",
		-255:               "\xff\xff\xff\xff\xff\xff\xff\x01",
		-256:               "\xff\xff\xff\xff\xff\xff\xff\x00",
		-257:               "\xff\xff\xff\xff\xff\xff\xfe\xff",
		math.MinInt32:      "\xff\xff\xff\xff\x80\x00\x00\x00",
		-0x102030405060708: "\xfe\xfd\xfc\xfb\xfa\xf9\xf8\xf8",
		math.MinInt + 1:    "\x80\x00\x00\x00\x00\x00\x00\x01",
		math.MinInt:        "\x80\x00\x00\x00\x00\x00\x00\x00",
	}
}

// lengths are counts and their bytes, from none on to such as need three bytes.
func lengths() map[int]string {
	return map[int]string{
		0:         "\x00\x00\x00\x00",
		1:         "\x00\x00\x00\x01",
		2:         "\x00\x00\x00\x02",
		255:       "\x00\x00\x00\xff",
		256:       "\x00\x00\x01\x00",
		258:       "\x00\x00\x01\x02",
		1<<16 - 1: "\x00\x00\xff\xff",
		1 << 16:   "\x00\x01\x00\x00",
		1<<16 + 3: "\x00\x01\x00\x03",
	}
}

// P3.1: the document's examples.
func TestExamples(t *testing.T) {
	expectAll(t, "Int(258)", new(wire.Out).Int(258), []byte{0, 0, 0, 0, 0, 0, 1, 2})
	expectAll(t, "Text(ab)", new(wire.Out).Text("ab"), []byte{0, 0, 0, 2, 97, 98})
}

// P3.1: numbers, below nought and at the bounds of int.
func TestPutInt(t *testing.T) {
	for n, want := range numbers() {
		expectAll(t, "Int", new(wire.Out).Int(n), []byte(want))
	}
}

// P3.1: bytes and texts, none of them and many.
func TestPutBytesAndText(t *testing.T) {
	for n, count := range lengths() {
		b := pattern(n, 200)
		want := append([]byte(count), b...)
		expectAll(t, "Bytes", new(wire.Out).Bytes(b), want)
		expectAll(t, "Text", new(wire.Out).Text(string(b)), want)
	}
	expectAll(t, "Bytes of nil", new(wire.Out).Bytes(nil), make([]byte, 4))
	expectAll(t, "Bytes of none", new(wire.Out).Bytes([]byte{}), make([]byte, 4))
	for _, s := range []string{"\x00", "\xff\xfe", "é", "\x00\x00\x00\x00", "a\nb", strings.Repeat("é", 300)} {
		want := append([]byte{0, 0, byte(len(s) >> 8), byte(len(s))}, s...)
		expectAll(t, "Text", new(wire.Out).Text(s), want)
		expectAll(t, "Bytes", new(wire.Out).Bytes([]byte(s)), want)
	}
}

// P3.1: a hash, without a count, and hashes with one.
func TestPutHashes(t *testing.T) {
	for i := range 3 {
		h := hashAt(i)
		expectAll(t, "Hash", new(wire.Out).Hash(h), h[:])
	}
	expectAll(t, "Hash of noughts", new(wire.Out).Hash(sha.Hash{}), make([]byte, 32))
	for n, count := range lengths() {
		if n > 1<<10 {
			continue
		}
		l := hashesAt(n)
		expectAll(t, "Hashes", new(wire.Out).Hashes(l), append([]byte(count), joined(l)...))
	}
	expectAll(t, "Hashes of nil", new(wire.Out).Hashes(nil), make([]byte, 4))
	expectAll(t, "Hashes of none", new(wire.Out).Hashes([]sha.Hash{}), make([]byte, 4))
	same := []sha.Hash{hashAt(1), hashAt(1)}
	expectAll(t, "Hashes of one twice", new(wire.Out).Hashes(same), append([]byte{0, 0, 0, 2}, joined(same)...))
}

// P3.1: bools.
func TestPutBool(t *testing.T) {
	expectAll(t, "Bool(true)", new(wire.Out).Bool(true), []byte{1})
	expectAll(t, "Bool(false)", new(wire.Out).Bool(false), []byte{0})
}

// mixed are the bytes of the things that putMixed puts.
func mixed() []byte {
	h := hashAt(7)
	return slices.Concat(
		[]byte("\x01\x00\x00\x00\x00\x00\x00\x01\x02\x00\x00\x00\x02xy\x00\x00\x00\x00"),
		h[:], []byte("\x00\x00\x00\x01"), h[:], []byte("\x00\x00\x00\x00\x00\x00\x00\x00\x00\x03abc\x00"),
		[]byte("\xff\xff\xff\xff\xff\xff\xff\xff"),
	)
}

// P3.1: several things one behind the other, by calls that are chained.
func TestPutChained(t *testing.T) {
	var o wire.Out
	h := hashAt(7)
	last := o.Bool(true).Int(258).Bytes([]byte("xy")).Text("").Hash(h).Hashes([]sha.Hash{h}).
		Hashes(nil).Bool(false).Bool(false).Text("abc").Bool(false).Int(-1)
	if last != &o {
		t.Errorf("a chain of calls doesn't end at the Out it began with")
	}
	expectAll(t, "what was chained", &o, mixed())
	expectAll(t, "the end of the chain", last, mixed())
}

// P3.1: the same by calls that aren't chained; each tells the Out itself.
func TestPutOneByOne(t *testing.T) {
	var o wire.Out
	h := hashAt(7)
	for i, told := range []*wire.Out{
		o.Bool(true), o.Int(258), o.Bytes([]byte("xy")), o.Text(""), o.Hash(h), o.Hashes([]sha.Hash{h}),
		o.Hashes(nil), o.Bool(false), o.Bool(false), o.Text("abc"), o.Bool(false), o.Int(-1),
	} {
		if told != &o {
			t.Errorf("call %d doesn't tell the Out itself", i)
		}
	}
	expectAll(t, "what was put", &o, mixed())
}

// P3.1: All tells what there is so far, and leaves it as it is.
func TestAll(t *testing.T) {
	var o wire.Out
	expectAll(t, "a zero Out", &o, nil)
	expectAll(t, "a zero Out, asked twice", &o, nil)
	expectAll(t, "a new Out", new(wire.Out), nil)
	var want []byte
	for i := range 300 {
		o.Bool(i%3 == 0).Int(i)
		want = append(want, []byte{1, 0, 0}[i%3], 0, 0, 0, 0, 0, 0, byte(i>>8), byte(i))
		expectAll(t, "All in between", &o, want)
		expectAll(t, "All asked twice", &o, want)
	}
}

// P3.1: two Outs don't touch one another.
func TestOutsApart(t *testing.T) {
	var first, second wire.Out
	first.Text("first")
	second.Text("2nd")
	first.Bool(true)
	expectAll(t, "the first", &first, []byte("\x00\x00\x00\x05first\x01"))
	expectAll(t, "the second", &second, []byte("\x00\x00\x00\x032nd"))
}
