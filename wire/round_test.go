package wire_test

import (
	"bytes"
	"math"
	"slices"
	"testing"

	"syngraph/sha"
	"syngraph/wire"
)

// thing is one thing of a sequence: it puts itself, and asks whether it is told again.
type thing struct {
	name string
	put  func(*wire.Out)
	same func(*wire.In) bool
}

func intOf(n int) thing {
	return thing{"Int", func(o *wire.Out) { o.Int(n) }, func(i *wire.In) bool { return i.Int() == n }}
}

func countOf(n int) thing {
	return thing{"Count", func(o *wire.Out) { o.Int(n) }, func(i *wire.In) bool { return i.Count(n, n) == n }}
}

func bytesOf(b []byte) thing {
	return thing{"Bytes", func(o *wire.Out) { o.Bytes(b) }, func(i *wire.In) bool { return bytes.Equal(i.Bytes(len(b)), b) }}
}

func textOf(s string) thing {
	return thing{"Text", func(o *wire.Out) { o.Text(s) }, func(i *wire.In) bool { return i.Text(len(s)) == s }}
}

func hashOf(h sha.Hash) thing {
	return thing{"Hash", func(o *wire.Out) { o.Hash(h) }, func(i *wire.In) bool { return i.Hash() == h }}
}

func hashesOf(l []sha.Hash) thing {
	return thing{"Hashes", func(o *wire.Out) { o.Hashes(l) }, func(i *wire.In) bool { return slices.Equal(i.Hashes(len(l)), l) }}
}

func boolOf(ok bool) thing {
	return thing{"Bool", func(o *wire.Out) { o.Bool(ok) }, func(i *wire.In) bool { return i.Bool() == ok }}
}

// toldAgain puts all things and asks for them again; then it does so with each beginning of the bytes.
func toldAgain(t *testing.T, l []thing) {
	t.Helper()
	var o wire.Out
	ends := make([]int, len(l))
	for n, x := range l {
		x.put(&o)
		ends[n] = len(o.All())
	}
	all := o.All()
	i := wire.NewIn(all)
	for n, x := range l {
		if !x.same(i) || i.Bad() || i.Done() != (n == len(l)-1) {
			t.Fatalf("thing %d, %s, isn't told again: Bad %t, Done %t", n, x.name, i.Bad(), i.Done())
		}
	}
	if len(all) > 2000 {
		return
	}
	for cut := range all {
		i := wire.NewIn(all[:cut])
		for n, x := range l {
			same := x.same(i)
			if i.Bad() != (ends[n] > cut) || !i.Bad() && !same {
				t.Fatalf("cut off at %d, thing %d, %s: Bad %t, told again %t", cut, n, x.name, i.Bad(), same)
			}
		}
	}
}

// P3.3: mixed sequences are told again, in the same order.
func TestToldAgain(t *testing.T) {
	toldAgain(t, []thing{intOf(-2), bytesOf([]byte("xyz")), textOf(""), hashOf(hashAt(1)), hashesOf(hashesAt(2)), boolOf(true), boolOf(false)})
	toldAgain(t, []thing{boolOf(false), hashesOf(nil), hashesOf(hashesAt(1)), bytesOf(nil), textOf("\x00\xff"), countOf(-9), intOf(math.MinInt), intOf(math.MaxInt)})
	toldAgain(t, []thing{textOf("a"), textOf("b"), textOf("ab"), bytesOf([]byte("a")), bytesOf([]byte("b"))})
	toldAgain(t, []thing{hashOf(hashAt(1)), hashOf(hashAt(2)), hashOf(sha.Hash{}), hashesOf([]sha.Hash{hashAt(2), hashAt(1)})})
	toldAgain(t, []thing{bytesOf(pattern(1<<16, 1)), hashesOf(hashesAt(1000)), textOf(string(pattern(70000, 9))), intOf(1)})
	for n := range numbers() {
		toldAgain(t, []thing{boolOf(true), intOf(n), countOf(n), boolOf(false)})
	}
}

// P3.3: the bytes of an Out may be put in another one as bytes.
func TestOutInOut(t *testing.T) {
	inner := new(wire.Out).Int(5).Text("in").All()
	i := wire.NewIn(new(wire.Out).Bytes(inner).Bool(true).All())
	j := wire.NewIn(i.Bytes(100))
	if j.Int() != 5 || j.Text(2) != "in" || !j.Done() || !i.Bool() || !i.Done() {
		t.Errorf("what was put in bytes that were put isn't told again")
	}
}

// P3.3, P3.2 and P1 of DOC.md: whatever things are put, they are told again.
func FuzzToldAgain(f *testing.F) {
	f.Add([]byte("0123456"), 0, []byte("xyz"))
	f.Add([]byte("\x06\x05\x04\x03\x02\x01\x00\xff"), math.MinInt, []byte(nil))
	f.Add([]byte("aabbccddee"), -1, pattern(200, 3))
	f.Fuzz(func(t *testing.T, kinds []byte, n int, b []byte) {
		if len(kinds) > 20 || len(b) > 100 || len(kinds) == 0 {
			return
		}
		var l []thing
		for at, kind := range kinds {
			part := b[at%(len(b)+1):]
			l = append(l, []thing{
				intOf(n + at), countOf(n - at), bytesOf(part), textOf(string(part)),
				hashOf(sha.Sum(part)), hashesOf(hashesAt(int(kind) / 7 % 5)), boolOf(at%2 == 0),
			}[kind%7])
		}
		toldAgain(t, l)
	})
}

// P1 of DOC.md, and P3.2: whatever is asked of whatever bytes, no call panics, and what is told was there.
func FuzzAnyBytes(f *testing.F) {
	f.Add([]byte("\x00\x00\x00\x02ab"), []byte("2345"), -1, 5)
	f.Add([]byte("\xff\xff\xff\xffab"), []byte("\x05\x02"), math.MinInt, math.MaxInt)
	f.Add(mixed(), []byte("\x06\x00\x02\x03\x04\x05\x05\x06\x06\x03\x06\x01"), math.MinInt, math.MaxInt)
	f.Fuzz(func(t *testing.T, b, asks []byte, least, most int) {
		i := wire.NewIn(b)
		var o wire.Out
		for _, ask := range asks {
			bad := i.Bad()
			putAgain(i, &o, ask%7, least, most)
			if bad && !i.Bad() {
				t.Fatalf("it is bad no more")
			}
			if got := o.All(); !i.Bad() && (!bytes.HasPrefix(b, got) || i.Done() != (len(got) == len(b))) {
				t.Fatalf("%v was told of %v, Done %t", got, b, i.Done())
			}
		}
		if i.Bad() {
			expectBad(t, "behind what is none", i)
		}
	})
}

// putAgain puts what an In tells at an ask.
func putAgain(i *wire.In, o *wire.Out, ask byte, least, most int) {
	switch ask {
	case 0:
		o.Int(i.Int())
	case 1:
		o.Int(i.Count(least, most))
	case 2:
		o.Bytes(i.Bytes(most))
	case 3:
		o.Text(i.Text(most))
	case 4:
		o.Hash(i.Hash())
	case 5:
		o.Hashes(i.Hashes(most))
	case 6:
		o.Bool(i.Bool())
	}
}
