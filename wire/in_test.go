package wire_test

import (
	"bytes"
	"math"
	"slices"
	"testing"

	"syngraph/sha"
	"syngraph/wire"
)

// expectBad tells the test that an In isn't bad, or that a call of it doesn't tell its zero value.
func expectBad(t *testing.T, what string, i *wire.In) {
	t.Helper()
	if !i.Bad() || i.Done() {
		t.Errorf("%s: Bad %t, Done %t", what, i.Bad(), i.Done())
	}
	for range 2 {
		if n, c, d := i.Int(), i.Count(math.MinInt, math.MaxInt), i.Count(3, 5); n != 0 || c != 0 || d != 0 {
			t.Errorf("%s: Int %d, Count %d and %d, not 0", what, n, c, d)
		}
		if b, s, l := i.Bytes(math.MaxInt), i.Text(math.MaxInt), i.Hashes(math.MaxInt); len(b) != 0 || s != "" || len(l) != 0 {
			t.Errorf("%s: Bytes %v, Text %q, Hashes %v, not empty", what, b, s, l)
		}
		if h, ok := i.Hash(), i.Bool(); h != (sha.Hash{}) || ok {
			t.Errorf("%s: Hash %s, Bool %t, not zero", what, h.Show(), ok)
		}
		if !i.Bad() || i.Done() {
			t.Errorf("%s, further on: Bad %t, Done %t", what, i.Bad(), i.Done())
		}
	}
}

// expectLeft tells the test that an In isn't good, or that its bytes left aren't these.
func expectLeft(t *testing.T, what string, i *wire.In, left []byte) {
	t.Helper()
	if i.Bad() || i.Done() != (len(left) == 0) {
		t.Errorf("%s: Bad %t, Done %t", what, i.Bad(), i.Done())
	}
	var got []byte
	for range left {
		n := byte(0)
		if i.Bool() {
			n = 1
		}
		got = append(got, n)
	}
	if i.Bad() || !i.Done() || !bytes.Equal(got, left) {
		t.Errorf("%s: %v is left, not %v; Bad %t, Done %t", what, got, left, i.Bad(), i.Done())
	}
}

// behind is laid behind what is read, so that one sees where a call stops.
func behind() []byte { return []byte{1, 0, 0, 1, 1, 0} }

// cutEverywhere asks, for each beginning of b that isn't all of it, whether reading makes the In bad and tells zero.
func cutEverywhere(t *testing.T, what string, b []byte, isZero func(*wire.In) bool) {
	t.Helper()
	for n := range b {
		i := wire.NewIn(b[:n])
		if i.Bad() || i.Done() != (n == 0) {
			t.Errorf("%s of %d bytes, ahead of reading: Bad %t, Done %t", what, n, i.Bad(), i.Done())
		}
		if !isZero(i) {
			t.Errorf("%s of %d bytes of %d isn't zero", what, n, len(b))
		}
		expectBad(t, what+" cut off", i)
	}
}

// P3.2: numbers, below nought and at the bounds of int, and such as are cut off.
func TestGetInt(t *testing.T) {
	for want, b := range numbers() {
		i := wire.NewIn(append([]byte(b), behind()...))
		if got := i.Int(); got != want {
			t.Errorf("Int of %x: %d, not %d", b, got, want)
		}
		expectLeft(t, "Int", i, behind())
		i = wire.NewIn([]byte(b))
		if got := i.Int(); got != want || i.Bad() || !i.Done() {
			t.Errorf("Int of %x and nothing more: %d, not %d", b, got, want)
		}
		cutEverywhere(t, "Int", []byte(b), func(i *wire.In) bool { return i.Int() == 0 })
		cutEverywhere(t, "Count", []byte(b), func(i *wire.In) bool { return i.Count(math.MinInt, math.MaxInt) == 0 })
	}
}

// P3.2: Count at its bounds, and one below and above.
func TestGetCount(t *testing.T) {
	for _, c := range []struct {
		n, least, most int
		ok             bool
	}{
		{3, 3, 5, true}, {4, 3, 5, true}, {5, 3, 5, true}, {2, 3, 5, false}, {6, 3, 5, false},
		{0, 0, 0, true}, {1, 0, 0, false}, {-1, 0, 0, false},
		{-5, -5, -3, true}, {-3, -5, -3, true}, {-6, -5, -3, false}, {-2, -5, -3, false}, {0, -5, -3, false},
		{0, 1, 9, false}, {1, 1, 1, true},
		{4, 5, 3, false}, {5, 5, 3, false}, {3, 5, 3, false}, {0, 1, -1, false},
		{math.MaxInt, math.MinInt, math.MaxInt, true}, {math.MinInt, math.MinInt, math.MaxInt, true},
		{0, math.MinInt, math.MaxInt, true}, {0, math.MaxInt, math.MinInt, false},
		{math.MaxInt, 0, math.MaxInt - 1, false}, {math.MinInt, math.MinInt + 1, 0, false},
		{math.MinInt, 0, math.MaxInt, false}, {math.MaxInt, math.MinInt, 0, false},
		{1 << 32, 0, 1, false}, {1<<32 + 1, 0, 1, false}, {256, 0, 255, false},
	} {
		i := wire.NewIn(append(new(wire.Out).Int(c.n).All(), behind()...))
		got := i.Count(c.least, c.most)
		if c.ok {
			if got != c.n {
				t.Errorf("Count(%d, %d) of %d: %d", c.least, c.most, c.n, got)
			}
			expectLeft(t, "Count", i, behind())
			continue
		}
		if got != 0 {
			t.Errorf("Count(%d, %d) of %d: %d, not 0", c.least, c.most, c.n, got)
		}
		expectBad(t, "Count out of its bounds", i)
	}
}

// P3.2: bytes and texts at most, below it and at one more.
func TestGetBytesAndText(t *testing.T) {
	for n, count := range lengths() {
		want := pattern(n, 200)
		b := slices.Concat([]byte(count), want, behind())
		for _, most := range []int{n, n + 1, 1 << 32, math.MaxInt} {
			i, j := wire.NewIn(b), wire.NewIn(b)
			if got := i.Bytes(most); !bytes.Equal(got, want) {
				t.Errorf("Bytes(%d) of %d: %v", most, n, got)
			}
			if got := j.Text(most); got != string(want) {
				t.Errorf("Text(%d) of %d: %q", most, n, got)
			}
			expectLeft(t, "Bytes", i, behind())
			expectLeft(t, "Text", j, behind())
		}
		for _, most := range []int{n - 1, -1, math.MinInt} {
			i, j := wire.NewIn(b), wire.NewIn(b)
			if got := i.Bytes(most); len(got) != 0 {
				t.Errorf("Bytes(%d) of %d: %v, not nothing", most, n, got)
			}
			if got := j.Text(most); got != "" {
				t.Errorf("Text(%d) of %d: %q, not nothing", most, n, got)
			}
			expectBad(t, "Bytes of more than most", i)
			expectBad(t, "Text of more than most", j)
		}
	}
}

// P3.2: hashes at most, below it and at one more.
func TestGetHashes(t *testing.T) {
	for _, n := range []int{0, 1, 2, 3, 255, 256, 258} {
		want := hashesAt(n)
		b := slices.Concat([]byte(lengthBytes(n)), joined(want), behind())
		for _, most := range []int{n, n + 1, 1 << 32, math.MaxInt} {
			i := wire.NewIn(b)
			if got := i.Hashes(most); !slices.Equal(got, want) {
				t.Errorf("Hashes(%d) of %d: %v", most, n, got)
			}
			expectLeft(t, "Hashes", i, behind())
		}
		for _, most := range []int{n - 1, -1, math.MinInt} {
			i := wire.NewIn(b)
			if got := i.Hashes(most); len(got) != 0 {
				t.Errorf("Hashes(%d) of %d: %v, not nothing", most, n, got)
			}
			expectBad(t, "Hashes of more than most", i)
		}
	}
}

// lengthBytes tells the four bytes of a count below 2^16.
func lengthBytes(n int) string {
	return string([]byte{0, 0, byte(n >> 8), byte(n)})
}

// P3.2: a hash.
func TestGetHash(t *testing.T) {
	for n := range 3 {
		want := hashAt(n)
		i := wire.NewIn(append(want[:], behind()...))
		if got := i.Hash(); got != want {
			t.Errorf("Hash: %s, not %s", got.Show(), want.Show())
		}
		expectLeft(t, "Hash", i, behind())
	}
	i := wire.NewIn(make([]byte, 32))
	if i.Hash() != (sha.Hash{}) || i.Bad() || !i.Done() {
		t.Errorf("a hash of noughts isn't one")
	}
}

// P3.2: each byte as a bool.
func TestGetBool(t *testing.T) {
	for n := range 256 {
		i := wire.NewIn(append([]byte{byte(n)}, behind()...))
		if got := i.Bool(); got != (n == 1) {
			t.Errorf("Bool of %d: %t", n, got)
		}
		if n < 2 {
			expectLeft(t, "Bool", i, behind())
		} else {
			expectBad(t, "Bool of another byte", i)
		}
	}
}

// P3.2: bytes that are cut off anywhere, the last one lacking and none being there among them.
func TestCutOff(t *testing.T) {
	noBytes := func(i *wire.In) bool { return len(i.Bytes(math.MaxInt)) == 0 }
	noText := func(i *wire.In) bool { return i.Text(math.MaxInt) == "" }
	noHashes := func(i *wire.In) bool { return len(i.Hashes(math.MaxInt)) == 0 }
	h := hashAt(1)
	cutEverywhere(t, "Hash", h[:], func(i *wire.In) bool { return i.Hash() == sha.Hash{} })
	cutEverywhere(t, "Bool", []byte{1}, func(i *wire.In) bool { return !i.Bool() })
	for _, n := range []int{0, 1, 5, 300} {
		b := append([]byte(lengthBytes(n)), bytes.Repeat([]byte{1}, n)...)
		cutEverywhere(t, "Bytes", b, noBytes)
		cutEverywhere(t, "Text", b, noText)
	}
	for _, n := range []int{0, 1, 2, 5} {
		cutEverywhere(t, "Hashes", append([]byte(lengthBytes(n)), joined(hashesAt(n))...), noHashes)
	}
	for _, b := range [][]byte{nil, {}} {
		if i := wire.NewIn(b); i.Bad() || !i.Done() {
			t.Errorf("an In of no bytes: Bad %t, Done %t", i.Bad(), i.Done())
		}
	}
}

// P3.2, and P1 of DOC.md: counts that are far more than what is left.
func TestCountsTooGreat(t *testing.T) {
	for _, count := range []string{"\x00\x00\x01\x00", "\x00\xff\xff\xff", "\x07\xff\xff\xff", "\x08\x00\x00\x00", "\x08\x00\x00\x01", "\x7f\xff\xff\xff", "\x80\x00\x00\x00", "\xff\xff\xff\xff"} {
		for _, most := range []int{math.MaxInt, 1 << 32, 1<<32 - 1, 3, 0, -1, math.MinInt} {
			b := append([]byte(count), bytes.Repeat([]byte{1}, 40)...)
			i, j, k := wire.NewIn(b), wire.NewIn(b), wire.NewIn(b)
			if l := i.Bytes(most); len(l) != 0 {
				t.Errorf("Bytes of %x: %v", count, l)
			}
			if s := j.Text(most); s != "" {
				t.Errorf("Text of %x: %q", count, s)
			}
			if l := k.Hashes(most); len(l) != 0 {
				t.Errorf("Hashes of %x: %v", count, l)
			}
			expectBad(t, "Bytes", i)
			expectBad(t, "Text", j)
			expectBad(t, "Hashes", k)
		}
	}
}

// P3.2: what was told ahead of what is none stays right, and nothing is told behind, though bytes are left.
func TestBadFromThenOn(t *testing.T) {
	o := new(wire.Out).Int(7).Bool(true)
	b := slices.Concat(o.All(), []byte{2}, o.All(), bytes.Repeat([]byte{1}, 200))
	i := wire.NewIn(b)
	if i.Int() != 7 || !i.Bool() || i.Bad() || i.Done() {
		t.Errorf("what is ahead of what is none isn't told")
	}
	if i.Bool() {
		t.Errorf("Bool of 2 is true")
	}
	expectBad(t, "behind a bool of 2", i)
	for name, ask := range map[string]func(*wire.In){
		"Count":  func(i *wire.In) { i.Count(8, 9) },
		"Bytes":  func(i *wire.In) { i.Bytes(-1) },
		"Text":   func(i *wire.In) { i.Text(-1) },
		"Hashes": func(i *wire.In) { i.Hashes(-1) },
	} {
		i := wire.NewIn(b)
		ask(i)
		expectBad(t, "behind "+name, i)
		if other := wire.NewIn(b); other.Bad() || other.Int() != 7 {
			t.Errorf("an In is bad by another one's %s", name)
		}
	}
}

// P3.2: Done behind each thing, and Bad and Done leave the In as it is.
func TestDone(t *testing.T) {
	i := wire.NewIn([]byte{1, 0, 1})
	for n := range 3 {
		for range 2 {
			if i.Bad() || i.Done() {
				t.Errorf("with %d bytes left: Bad %t, Done %t", 3-n, i.Bad(), i.Done())
			}
		}
		if got := i.Bool(); got != (n != 1) {
			t.Errorf("Bool %d: %t", n, got)
		}
	}
	for range 2 {
		if i.Bad() || !i.Done() {
			t.Errorf("with nothing left: Bad %t, Done %t", i.Bad(), i.Done())
		}
	}
	i.Bool()
	expectBad(t, "behind the end", i)
}
