package disk_test

import (
	"testing"

	"syngraph/api"
	"syngraph/disk"
)

// P1 of DOC.md, and P11.1 to P11.5: whatever calls come behind one another, a disk and its copies do what their models do.
func FuzzCalls(f *testing.F) {
	f.Add(1, 16, []byte(nil))
	f.Add(3, 17, []byte{0, 1, 0, 0, 1, 4, 0, 7, 1, 9, 0, 0, 0, 5, 5, 6, 6})
	f.Add(7, 20, []byte("what is drawn from these bytes is done, and then all noughts"))
	f.Fuzz(func(t *testing.T, n, size int, b []byte) {
		n, size = 1+int(uint(n)%8), 16+int(uint(size)%8)
		calls := min(len(b), 60)
		next := func(n int) int {
			if len(b) == 0 {
				return 0
			}
			c := b[0]
			b = b[1:]
			return int(c) % n
		}
		run(t, next, n, size, calls)
	})
}

// P1 of DOC.md, and P11.1: New at any numbers, and the calls of what it makes at any others.
func FuzzArguments(f *testing.F) {
	f.Add(4, 16, 2, []byte("sixteen bytes, .."))
	f.Add(0, -1, -1, []byte(nil))
	f.Add(65536, 4096, 65535, []byte{1})
	f.Fuzz(func(t *testing.T, n, size, i int, b []byte) {
		d := disk.New(n, size)
		if within := n >= 1 && n <= 65536 && size >= 16 && size <= 4096; (d != nil) != within {
			t.Fatalf("New of %d sectors of %d bytes: a disk %t", n, size, d != nil)
		}
		if d == nil {
			return
		}
		e := d.Write(i, b)
		_, read := d.Read(i)
		switch {
		case i < 0 || i >= n:
			if e != api.ErrRange || read != api.ErrRange {
				t.Fatalf("Write of sector %d of %d: error %d, Read: %d", i, n, e, read)
			}
		case len(b) != size:
			if e != api.ErrForm || read != api.OK {
				t.Fatalf("Write of %d bytes to a sector of %d: error %d, Read: %d", len(b), size, e, read)
			}
		default:
			if e != api.OK {
				t.Fatalf("Write of sector %d of %d: error %d", i, n, e)
			}
			wantRead(t, "written", d, i, b)
		}
		callAll(d, i, b)
	})
}

func BenchmarkCopy(b *testing.B) {
	d := disk.New(1<<12, 512)
	for b.Loop() {
		d.Copy()
	}
}

func BenchmarkWriteAndFlush(b *testing.B) {
	d := disk.New(1<<12, 512)
	sector := make([]byte, 512)
	for b.Loop() {
		for i := range 100 {
			d.Write(i, sector)
		}
		d.Flush()
	}
}
