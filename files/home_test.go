package files_test

import (
	"bytes"
	"slices"
	"strings"
	"testing"

	"syngraph/api"
	"syngraph/files"
)

// homeBytes is how many bytes the home sectors of most disks here have.
const homeBytes = 640

// laid tells what files stand in a home of these bytes, and noughts behind them.
func laid(t *testing.T, home ...[]byte) (*files.Store, api.Errno) {
	t.Helper()
	return files.Open(layHome(t, newDisk(t, sectors, size), slices.Concat(home...)))
}

// wantLaid holds a home of these bytes to having files.
func wantLaid(t *testing.T, what string, x texts, home ...[]byte) {
	t.Helper()
	s, e := laid(t, home...)
	if e != api.OK || s == nil {
		t.Fatalf("%s: Open: error %d", what, e)
	}
	wantFiles(t, what, s, x)
}

// wantBad holds a home of these bytes to being none.
func wantBad(t *testing.T, what string, home ...[]byte) {
	t.Helper()
	if s, e := laid(t, home...); e != api.ErrBad || s != nil {
		t.Errorf("%s: Open: a store %t, error %d, not %d", what, s != nil, e, api.ErrBad)
	}
}

// entry tells a file as it stands in an image.
func entry(name, data string) []byte {
	return append(counted(name), counted(data)...)
}

// wantBadImage holds the image of these bytes to being none, where it stands as it should.
func wantBadImage(t *testing.T, what string, image ...[]byte) {
	t.Helper()
	b := slices.Concat(image...)
	wantBad(t, what, number(len(b)), b)
}

// P13.2: a length below nought, or beyond what home has.
func TestOpenLength(t *testing.T) {
	image := texts{"a": "b"}.image()
	wantLaid(t, "the right length", texts{"a": "b"}, number(len(image)), image)
	for _, n := range []int{-1, -len(image), -1 << 63, 1<<63 - 1, homeBytes - 7, homeBytes - 8 + 1, homeBytes, 1 << 32, 1<<32 + len(image), 1 << 40} {
		wantBad(t, "no such length", number(n), image)
		wantBad(t, "no such length of the image of no files", number(n), number(0))
	}
}

// P13.2: a length that is not the image's: less, so that it is cut off, or more, so that noughts are taken for some of it.
func TestOpenLengthOfAnother(t *testing.T) {
	for _, x := range []texts{{"a": "b"}, {"a": ""}, {"a": "\x00"}, {"a": "b", "b": "\x00\x00"}, someFiles()} {
		image := x.image()
		for n := range homeBytes - 7 {
			if n == len(image) {
				wantLaid(t, "its length", x, number(n), image)
			} else {
				wantBad(t, "another length", number(n), image)
			}
		}
	}
}

// P13.2: home of noughts has no files, and so has the image of none; of a length of nought nothing else stands there.
func TestOpenNoughts(t *testing.T) {
	wantLaid(t, "all noughts", texts{})
	wantLaid(t, "the image of no files", texts{}, number(8))
	for _, at := range []int{8, 9, 15, 16, 63, 64, 500, homeBytes - 1} {
		wantBad(t, "a length of nought, and a byte behind it", make([]byte, at), []byte{1})
		wantBad(t, "a length of nought, and a byte of 128 behind it", make([]byte, at), []byte{128})
	}
	for n := 1; n < 8; n++ {
		wantBad(t, "fewer bytes than a count has", number(n))
	}
	for _, n := range []int{9, 10, 16, homeBytes - 8} {
		wantBad(t, "no files, and noughts behind them in the image", number(n))
	}
}

// P13.2: something behind the image that is not nought, in each place.
func TestOpenBehindImage(t *testing.T) {
	image := someFiles().image()
	for at := 8 + len(image); at < homeBytes; at++ {
		wantBad(t, "a byte behind the image", number(len(image)), image, make([]byte, at-8-len(image)), []byte{1})
	}
}

// P13.2: a count that is not that of the files: below nought, or beyond what there is, or may be.
func TestOpenCount(t *testing.T) {
	a, b := entry("a", "x"), entry("b", "y")
	wantLaid(t, "two", texts{"a": "x", "b": "y"}, number(8+len(a)+len(b)), number(2), a, b)
	for _, n := range []int{-1, -2, 0, 1, 3, 4, 1023, 1024, 1025, 1 << 32, 1<<32 + 2, -1 << 63, 1<<63 - 1} {
		wantBadImage(t, "another count", number(n), a, b)
	}
	for _, n := range []int{-1, 1, 2, 1024, 1 << 60} {
		wantBadImage(t, "a count of nothing", number(n))
	}
}

// P13.2: an image of as many files as there may be, and of one more.
func TestOpenMost(t *testing.T) {
	for _, n := range []int{1024, 1025} {
		image := numbered(n).image()
		d := newDisk(t, 100, 1024)
		layHome(t, d, standing(image, 50*1024))
		if n == 1024 {
			wantFiles(t, "as many as there may be", mustOpen(t, d), numbered(n))
		} else {
			wantNoStore(t, "one more", d, api.ErrBad)
		}
	}
}

// P13.2: texts and bytes that say they are longer than what is left, or shorter than what there is.
func TestOpenCounted(t *testing.T) {
	wantLaid(t, "right", texts{"abc": "xyz"}, number(8+4+3+4+3), number(1), entry("abc", "xyz"))
	for c := range 256 {
		for at := range 4 {
			name, data := counted("abc"), counted("xyz")
			name[at] = byte(c)
			if name[at] != counted("abc")[at] {
				wantBadImage(t, "a name of another length", number(1), name, data)
			}
			name, data = counted("abc"), counted("xyz")
			data[at] = byte(c)
			if data[at] != counted("xyz")[at] {
				wantBadImage(t, "data of another length", number(1), name, data)
			}
		}
	}
}

// P13.2: an image that is cut off anywhere; of nothing of it no files are left.
func TestOpenCutOff(t *testing.T) {
	image := someFiles().image()
	for n := 1; n < len(image); n++ {
		wantBadImage(t, "cut off", image[:n])
	}
	wantLaid(t, "nothing", texts{})
}

// P13.2: an image with something behind its files, in its own length.
func TestOpenMoreInImage(t *testing.T) {
	image := someFiles().image()
	for _, more := range [][]byte{{0}, {1}, make([]byte, 8), entry("zz", ""), image} {
		if len(image)+len(more) <= homeBytes-8 {
			wantBadImage(t, "more in the image", image, more)
		}
	}
}

// P13.2: names that don't rise, or stand twice.
func TestOpenNamesInOrder(t *testing.T) {
	a, b, ab := entry("a", "1"), entry("b", "2"), entry("a.b", "3")
	wantLaid(t, "rising", texts{"a": "1", "a.b": "3", "b": "2"}, number(8+len(a)+len(b)+len(ab)), number(3), a, ab, b)
	for _, l := range [][][]byte{{b, a, ab}, {a, b, ab}, {ab, a, b}, {b, ab, a}, {ab, b, a}} {
		wantBadImage(t, "not rising", number(3), slices.Concat(l...))
	}
	for _, l := range [][][]byte{{a, a}, {a, entry("a", "2")}, {b, b}} {
		wantBadImage(t, "twice", number(2), slices.Concat(l...))
		wantBadImage(t, "twice, counted once", number(1), slices.Concat(l...))
	}
	wantBadImage(t, "twice among others", number(4), a, ab, ab, b)
}

// P13.2: names that are none, and files that clash.
func TestOpenNotRight(t *testing.T) {
	for _, name := range []string{"", "/", "A", ".", "..", "a/", "/a", "a//b", "a b", "a\x00", "\xff", strings.Repeat("a", 65)} {
		wantBadImage(t, "no name", number(1), entry(name, "x"))
	}
	wantLaid(t, "the longest name", texts{strings.Repeat("a", 64): "x"}, number(8+4+64+4+1), number(1), entry(strings.Repeat("a", 64), "x"))
	for _, l := range [][]string{{"a", "a/b"}, {"a", "a-", "a/b"}, {"a/b", "a/b/c"}, {"a", "a/b/c"}} {
		var b []byte
		for _, name := range l {
			b = append(b, entry(name, "")...)
		}
		wantBadImage(t, "a clash", number(len(l)), b)
	}
}

// P13.2: with each byte of home changed there are the files whose image that is, or none.
func TestOpenEachByte(t *testing.T) {
	right := standing(texts{"a/b": "one", "c": ""}.image(), homeBytes)
	others := 0
	for at := range right {
		for _, c := range []byte{1, 2, 128, 255} {
			b := slices.Clone(right)
			b[at] ^= c
			s, e := laid(t, b)
			if e != api.OK {
				wantBad(t, "a byte changed", b)
				continue
			}
			others++
			if !bytes.Equal(standing(told(s).image(), homeBytes), b) {
				t.Errorf("byte %d changed: files that don't stand there", at)
			}
		}
	}
	if others == 0 {
		t.Errorf("no change of a byte gave other files")
	}
}

// told tells what files a store has.
func told(s *files.Store) texts {
	x := texts{}
	for name, b := range s.Each() {
		x[name] = string(b)
	}
	return x
}
