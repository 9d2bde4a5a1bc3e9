package files_test

import (
	"bytes"
	"strings"
	"testing"

	"syngraph/api"
	"syngraph/disk"
	"syngraph/files"
)

// P1 of DOC.md, and P13.1 to P13.4: whatever calls come behind one another, a store does what its model does.
func FuzzCalls(f *testing.F) {
	f.Add(3, 32, []byte(nil))
	f.Add(20, 64, []byte{2, 3, 1, 4, 1, 1, 0, 5, 0, 7, 0, 1, 1, 1, 0, 0, 3, 3, 1, 9, 2, 5})
	f.Add(9, 80, []byte("what is drawn from these bytes is done, and then all ones"))
	f.Fuzz(func(t *testing.T, n, size int, b []byte) {
		n, size = 3+int(uint(n)%20), 32+int(uint(size)%60)
		calls := min(len(b), 30)
		next := func(n int) int {
			if len(b) == 0 {
				return 1 % n
			}
			c := b[0]
			b = b[1:]
			return int(c) % n
		}
		run(t, next, n, size, calls)
	})
}

// reader takes an image apart by the chapter's words.
type reader struct {
	b   []byte
	bad bool
}

// number reads a number of so many bytes.
func (r *reader) number(size int) int {
	if len(r.b) < size {
		r.bad = true
		return 0
	}
	n := 0
	for _, c := range r.b[:size] {
		n = n<<8 | int(c)
	}
	r.b = r.b[size:]
	return n
}

// counted reads bytes behind their count.
func (r *reader) counted() string {
	n := r.number(4)
	if r.bad || n > len(r.b) {
		r.bad = true
		return ""
	}
	s := string(r.b[:n])
	r.b = r.b[n:]
	return s
}

// rightHome tells by the chapter's words what files stand in home, and whether they do as they should.
func rightHome(home []byte) (texts, bool) {
	if len(bytes.Trim(home, "\x00")) == 0 {
		return texts{}, true
	}
	r := &reader{b: home}
	n := r.number(8)
	if r.bad || n < 0 || n > len(r.b) || len(bytes.Trim(r.b[n:], "\x00")) > 0 {
		return nil, false
	}
	r.b = r.b[:n]
	count := r.number(8)
	if r.bad || count < 0 || count > 1024 {
		return nil, false
	}
	x, ahead := texts{}, ""
	for range count {
		name := r.counted()
		if data := r.counted(); r.bad || name <= ahead || !files.Name(name) {
			return nil, false
		} else {
			x[name] = data
		}
		ahead = name
	}
	for a := range x {
		for b := range x {
			if strings.HasPrefix(b, a+"/") {
				return nil, false
			}
		}
	}
	return x, len(r.b) == 0
}

// P1 of DOC.md, and P13.2: home of any bytes has files or none, and what it has is told, and stands there.
func FuzzHome(f *testing.F) {
	f.Add([]byte(nil))
	f.Add(number(8))
	for _, x := range []texts{someFiles(), {"a": "b"}, {"a": "b", "a.b": "", "c/d": "e"}, {"A": ""}, {"a": "", "a/b": ""}} {
		f.Add(standing(x.image(), 400))
	}
	f.Fuzz(func(t *testing.T, b []byte) {
		d := disk.New(20, size)
		home := make([]byte, homeBytes)
		copy(home, b)
		layHome(t, d, home)
		s, e := files.Open(d)
		x, right := rightHome(home)
		if !right {
			if e != api.ErrBad || s != nil {
				t.Fatalf("Open of no image: error %d", e)
			}
			return
		}
		if e != api.OK {
			t.Fatalf("Open of %q: error %d", x, e)
		}
		wantFiles(t, "any home", s, x)
	})
}

// P13.1: Image of any two files.
func FuzzImage(f *testing.F) {
	f.Add("a", "b", "a/b", "c")
	f.Add("a", "", "b", "")
	f.Add("..", "", "b", "")
	f.Fuzz(func(t *testing.T, a, aData, b, bData string) {
		x := texts{a: aData, b: bData}
		want := api.OK
		switch {
		case !files.Name(a) || !files.Name(b):
			want = api.ErrName
		case strings.HasPrefix(a, b+"/") || strings.HasPrefix(b, a+"/"):
			want = api.ErrClash
		}
		image, e := files.Image(x.data())
		if e != want || e == api.OK && !bytes.Equal(image, x.image()) || e != api.OK && len(image) > 0 {
			t.Fatalf("Image of %q: error %d, not %d", x, e, want)
		}
	})
}

func BenchmarkCommit(b *testing.B) {
	s, _ := files.Open(disk.New(1<<12, 512))
	s.Commit(numbered(1000).edits()...)
	for k := range b.N {
		s.Commit(put("a", strings.Repeat("x", k%9)))
	}
}

func BenchmarkOpen(b *testing.B) {
	d := disk.New(1<<12, 512)
	s, _ := files.Open(d)
	s.Commit(numbered(1000).edits()...)
	for b.Loop() {
		files.Open(d)
	}
}
