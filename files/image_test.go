package files_test

import (
	"bytes"
	"fmt"
	"maps"
	"strings"
	"testing"

	"syngraph/api"
	"syngraph/files"
)

// wantImage holds Image to the image of files.
func wantImage(t *testing.T, what string, x texts) {
	t.Helper()
	if b, e := files.Image(x.data()); e != api.OK || !bytes.Equal(b, x.image()) {
		t.Errorf("%s: Image: %q, error %d, not %q", what, b, e, x.image())
	}
}

// wantNoImage holds Image to an error with nothing beside it, each time, as maps are gone through in any order.
func wantNoImage(t *testing.T, what string, x texts, want api.Errno) {
	t.Helper()
	for range 5 {
		if b, e := files.Image(x.data()); e != want || len(b) > 0 {
			t.Errorf("%s: Image: %d bytes, error %d, not %d", what, len(b), e, want)
		}
	}
}

// numbered tells files of so many numbers, in a directory of their own.
func numbered(n int) texts {
	x := texts{}
	for k := range n {
		x[fmt.Sprintf("n/%d", k)] = fmt.Sprint(k)
	}
	return x
}

// and tells files with those of others.
func (x texts) and(y texts) texts {
	z := maps.Clone(x)
	maps.Copy(z, y)
	return z
}

// P13.1: an image, byte for byte.
func TestImageBytes(t *testing.T) {
	for _, c := range []struct {
		x    texts
		want string
	}{
		{nil, "\x00\x00\x00\x00\x00\x00\x00\x00"},
		{texts{}, "\x00\x00\x00\x00\x00\x00\x00\x00"},
		{texts{"a": ""}, "\x00\x00\x00\x00\x00\x00\x00\x01\x00\x00\x00\x01a\x00\x00\x00\x00"},
		{texts{"a/b": "cd"}, "\x00\x00\x00\x00\x00\x00\x00\x01\x00\x00\x00\x03a/b\x00\x00\x00\x02cd"},
		{texts{"b": "\x00", "a/c": "x", "a-c": "yz"}, "\x00\x00\x00\x00\x00\x00\x00\x03\x00\x00\x00\x03a-c\x00\x00\x00\x02yz\x00\x00\x00\x03a/c\x00\x00\x00\x01x\x00\x00\x00\x01b\x00\x00\x00\x01\x00"},
	} {
		if b, e := files.Image(c.x.data()); e != api.OK || string(b) != c.want {
			t.Errorf("Image of %v: %q, error %d, not %q", c.x, b, e, c.want)
		}
	}
	for _, m := range []map[string][]byte{nil, {}} {
		if b, e := files.Image(m); e != api.OK || !bytes.Equal(b, make([]byte, 8)) {
			t.Errorf("Image of no files: %q, error %d", b, e)
		}
	}
	if b, e := files.Image(map[string][]byte{"a": nil, "b": {}}); e != api.OK || !bytes.Equal(b, texts{"a": "", "b": ""}.image()) {
		t.Errorf("Image of data that is nil, and of such that is empty: %q, error %d", b, e)
	}
}

// P13.1: images of several files, with names and data of many lengths.
func TestImage(t *testing.T) {
	wantImage(t, "several", someFiles())
	long := texts{}
	for n := range 300 {
		long[fmt.Sprintf("%0*d", 1+n%61+3, n)] = strings.Repeat("x", n)
	}
	wantImage(t, "of many lengths", long)
	wantImage(t, "of a great one", texts{"a": strings.Repeat("great", 1<<16), strings.Repeat("b", 64): "small"})
	for c := range 256 {
		wantImage(t, "data of any byte", texts{"a": string([]byte{byte(c)})})
	}
}

// P13.1: as many files as there may be, and one more.
func TestImageOfMost(t *testing.T) {
	for _, n := range []int{255, 256, 257, 1023, 1024} {
		wantImage(t, "as many", numbered(n))
	}
	for _, n := range []int{1025, 1026, 2048, 5000} {
		wantNoImage(t, "too many", numbered(n), api.ErrMany)
	}
}

// P13.1: ErrName, of one name that is none, by itself and among others.
func TestImageErrName(t *testing.T) {
	for _, name := range []string{"", "/", "a/", "/a", "a//b", ".", "..", "a/..", "A", "a b", strings.Repeat("a", 65)} {
		wantNoImage(t, "by itself", texts{name: ""}, api.ErrName)
		wantNoImage(t, "among others", someFiles().and(texts{name: "x"}), api.ErrName)
		wantNoImage(t, "among as many as there may be", numbered(1023).and(texts{name: "x"}), api.ErrName)
	}
	wantImage(t, "of the longest name", texts{strings.Repeat("a", 64): ""})
}

// P13.1: ErrClash, if a file's name is a directory of another one, directly or some parts deeper.
func TestImageErrClash(t *testing.T) {
	for _, x := range []texts{
		{"a": "", "a/b": ""}, {"a": "", "a/b/c": ""}, {"a": "", "a/b/c/d/e/f": ""},
		{"a/b": "", "a/b/c": ""}, {"a/b": "", "a/b/c/d": ""}, {"a/b/c": "", "a/b/c/d": ""},
		{"a": "", "a-": "", "a.": "", "a/b": ""}, {"...": "", ".../...": ""}, {"a": "", "a/a": ""}, {"a": "", "a/a/a": ""},
		{strings.Repeat("a", 62): "", strings.Repeat("a", 62) + "/a": ""},
	} {
		wantNoImage(t, "a clash", x, api.ErrClash)
		wantNoImage(t, "a clash among others", numbered(500).and(x), api.ErrClash)
	}
}

// P13.1: names that only begin alike don't clash.
func TestImageNoClash(t *testing.T) {
	for _, x := range []texts{
		{"a": "", "a.b": ""}, {"a": "", "a-b": ""}, {"a": "", "a_b": "", "ab": "", "a0": ""}, {"a": "", "ab/c": ""}, {"a": "", "a.b/c": "", "a-/c": ""},
		{"a/b": "", "a/bc": "", "a/b.c": "", "a/b-/d": ""}, {"b": "", "a/b": "", "a/c/b": ""}, {"a/b": "", "b/a": ""}, {"b/c": "", "a/b/c": ""}, {"a/a": "", "b/a/a": ""},
	} {
		wantImage(t, "alike", x)
	}
}

// P13.1: of several errors ErrMany comes first, then ErrName, then ErrClash.
func TestImageErrorsInOrder(t *testing.T) {
	many, name, clash := numbered(1025), texts{"A": ""}, texts{"a": "", "a/b": ""}
	wantNoImage(t, "many and a name", many.and(name), api.ErrMany)
	wantNoImage(t, "many and a clash", many.and(clash), api.ErrMany)
	wantNoImage(t, "many, a name and a clash", many.and(name).and(clash), api.ErrMany)
	wantNoImage(t, "a name and a clash", name.and(clash), api.ErrName)
	wantNoImage(t, "a name that is in a clash", texts{"a/": "", "a": "", "a//b": ""}, api.ErrName)
	wantNoImage(t, "1024 with a name", numbered(1023).and(name), api.ErrName)
	wantNoImage(t, "1024 with a clash", numbered(1022).and(clash), api.ErrClash)
}
