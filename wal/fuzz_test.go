package wal_test

import (
	"bytes"
	"testing"

	"syngraph/api"
	"syngraph/disk"
	"syngraph/wal"
	"syngraph/wire"
)

// P1 of DOC.md, and P12.1 to P12.3: whatever calls come behind one another, a wal does what its model does.
func FuzzCalls(f *testing.F) {
	f.Add(3, 32, []byte(nil))
	f.Add(9, 40, []byte{2, 3, 1, 4, 1, 1, 0, 5, 0, 7, 0, 1, 1, 1, 0, 0, 3, 3, 1, 9, 2, 5})
	f.Add(8, 64, []byte("what is drawn from these bytes is done, and then all ones"))
	f.Fuzz(func(t *testing.T, n, size int, b []byte) {
		n, size = 3+int(uint(n)%8), 32+int(uint(size)%40)
		calls := min(len(b), 40)
		next := func(n int) int {
			if len(b) == 0 {
				return 1 % n
			}
			c := b[0]
			b = b[1:]
			return int(c) % n
		}
		run(t, next, n, size, calls)
	})
}

// rightHead tells by the chapter's words, number by number, what a head names, and whether it is right.
func rightHead(b []byte, home, room int) ([]int, bool) {
	in := wire.NewIn(b)
	numbers := make([]int, len(b)/8)
	for k := range numbers {
		numbers[k] = in.Int()
	}
	behind := b[16:]
	if numbers[0] == 0 {
		return nil, len(bytes.Trim(b, "\x00")) == 0
	}
	if numbers[0] != 1 || numbers[1] < 0 || numbers[1] > room {
		return nil, false
	}
	at := numbers[2 : 2+numbers[1]]
	for _, i := range at {
		if i < 0 || i >= home {
			return nil, false
		}
	}
	return at, len(bytes.Trim(behind[8*len(at):], "\x00")) == 0
}

// P1 of DOC.md, and P12.1: a head of any bytes is right or not, and what it names comes home.
func FuzzHead(f *testing.F) {
	f.Add(9, head(64, 3, 1, 3))
	f.Add(4, head(32, 0, 1))
	f.Add(7, head(33))
	f.Add(3, make([]byte, 32))
	f.Add(9, numbered(40, 1, 3, 2, 9))
	f.Add(2, []byte("seven"))
	f.Fuzz(func(t *testing.T, n int, b []byte) {
		n = 1 + int(uint(n)%20)
		d := disk.New(n, len(b))
		if d == nil {
			return
		}
		d.Tamper(0, b)
		for i := 1; i < n; i++ {
			d.Tamper(i, bytes.Repeat([]byte{byte(i)}, len(b)))
		}
		w, e := wal.Open(d)
		if n < 3 || len(b) < 32 {
			if e != api.ErrRange || w != nil {
				t.Fatalf("Open of %d sectors of %d bytes: error %d", n, len(b), e)
			}
			return
		}
		h := homesOf(n)
		at, right := rightHead(b, h, min(n-1-h, (len(b)-16)/8))
		if !right {
			if e != api.ErrBad || w != nil {
				t.Fatalf("Open of a head that is not right: error %d", e)
			}
			return
		}
		if e != api.OK {
			t.Fatalf("Open of a head that is right: error %d", e)
		}
		want := make([]byte, h)
		for i := range want {
			want[i] = byte(1 + i)
		}
		for k, i := range at {
			want[i] = byte(1 + h + k)
		}
		wantHome(t, "any head", w, want...)
	})
}

func BenchmarkCommit(b *testing.B) {
	d := disk.New(1<<12, 512)
	w, _ := wal.Open(d)
	var l []wal.Change
	for k := range w.Room() {
		l = append(l, wal.Change{At: k, Data: make([]byte, 512)})
	}
	for b.Loop() {
		w.Commit(l...)
	}
}

func BenchmarkRead(b *testing.B) {
	w, _ := wal.Open(disk.New(1<<12, 512))
	for b.Loop() {
		w.Read(7)
	}
}
