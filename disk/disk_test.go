package disk_test

import (
	"bytes"
	"math"
	"slices"
	"testing"

	"syngraph/api"
	"syngraph/disk"
)

// size is how many bytes the sectors of most disks here have.
const size = 16

// full tells a sector of one byte.
func full(c byte) []byte {
	return bytes.Repeat([]byte{c}, size)
}

// newDisk makes a disk that may be.
func newDisk(t *testing.T, n, size int) *disk.Disk {
	t.Helper()
	d := disk.New(n, size)
	if d == nil {
		t.Fatalf("New of %d sectors of %d bytes: none", n, size)
	}
	return d
}

// mustWrite writes to a sector that there is, of a disk with power.
func mustWrite(t *testing.T, d *disk.Disk, i int, b []byte) {
	t.Helper()
	if e := d.Write(i, b); e != api.OK {
		t.Fatalf("Write of sector %d: error %d", i, e)
	}
}

// mustFlush flushes a disk with power.
func mustFlush(t *testing.T, d *disk.Disk) {
	t.Helper()
	if e := d.Flush(); e != api.OK {
		t.Fatalf("Flush: error %d", e)
	}
}

// mustRead reads a sector that there is, of a disk with power.
func mustRead(t *testing.T, d *disk.Disk, i int) []byte {
	t.Helper()
	b, e := d.Read(i)
	if e != api.OK {
		t.Fatalf("Read of sector %d: error %d", i, e)
	}
	return b
}

// wantRead holds a sector to what it should be read as.
func wantRead(t *testing.T, what string, d *disk.Disk, i int, want []byte) {
	t.Helper()
	if b, e := d.Read(i); e != api.OK || !bytes.Equal(b, want) {
		t.Errorf("%s: Read of sector %d: %v, error %d, not %v", what, i, b, e, want)
	}
}

// wantSectors holds a disk of 16 bytes a sector to one byte for each of its sectors.
func wantSectors(t *testing.T, what string, d *disk.Disk, want ...byte) {
	t.Helper()
	if d.Sectors() != len(want) {
		t.Fatalf("%s: %d sectors, not %d", what, d.Sectors(), len(want))
	}
	for i, c := range want {
		wantRead(t, what, d, i, full(c))
	}
}

// wantNoRead holds Read to an error with nothing beside it.
func wantNoRead(t *testing.T, what string, d *disk.Disk, i int, want api.Errno) {
	t.Helper()
	if b, e := d.Read(i); e != want || len(b) != 0 {
		t.Errorf("%s: Read of sector %d: %v, error %d, not %d", what, i, b, e, want)
	}
}

// wantCached holds a disk to the sectors that its cache has something of.
func wantCached(t *testing.T, what string, d *disk.Disk, want ...int) {
	t.Helper()
	if l := d.Cached(); !slices.Equal(l, want) {
		t.Errorf("%s: Cached: %v, not %v", what, l, want)
	}
}

// wantDone holds a disk to how many commands were done.
func wantDone(t *testing.T, what string, d *disk.Disk, want int) {
	t.Helper()
	if n := d.Done(); n != want {
		t.Errorf("%s: Done: %d, not %d", what, n, want)
	}
}

// noSectors tells numbers that are no sector's of a disk of n.
func noSectors(n int) []int {
	return []int{-1, -2, -n, n, n + 1, 2 * n, math.MinInt, math.MinInt + 1, math.MaxInt, math.MaxInt - 1, 1 << 32, -1 << 32, 1 << 31, -1 << 31, api.MaxSectors, api.MaxSectors + 1}
}

// noContents tells bytes that are none for a sector of so many.
func noContents(size int) [][]byte {
	long := bytes.Repeat([]byte{7}, 3*size)
	return [][]byte{nil, {}, {7}, long[:size/2], long[:size-1], long[:size+1], long[:2*size], long}
}

// P11.1: New makes disks at the bounds of both numbers.
func TestNew(t *testing.T) {
	for _, n := range []int{1, 2, 3, 255, api.MaxSectors - 1, api.MaxSectors} {
		for _, size := range []int{16, 17, 512, api.MaxSector - 1, api.MaxSector} {
			d := newDisk(t, n, size)
			if d.Sectors() != n || d.Size() != size || d.Done() != 0 || d.Down() || len(d.Cached()) != 0 {
				t.Errorf("New of %d sectors of %d bytes: %d of %d, %d done, down %t, %v cached", n, size, d.Sectors(), d.Size(), d.Done(), d.Down(), d.Cached())
			}
		}
	}
}

// P11.1: New makes none, if a number is not within its bounds, whatever the other one is.
func TestNewNone(t *testing.T) {
	for _, bad := range []int{0, -1, -16, -api.MaxSectors, 1 << 31, 1 << 32, 1<<32 + 16, math.MinInt, math.MinInt + 1, math.MaxInt, math.MaxInt - 1} {
		for _, other := range []int{1, 16, 512, api.MaxSector, 0, -1, math.MinInt, math.MaxInt} {
			if disk.New(bad, other) != nil || disk.New(other, bad) != nil {
				t.Errorf("New of %d and %d makes a disk", bad, other)
			}
		}
	}
	for _, x := range [][2]int{{api.MaxSectors + 1, 16}, {api.MaxSectors + 1, api.MaxSector}, {2 * api.MaxSectors, 16}, {1, 15}, {api.MaxSectors, 15}, {1, 1}, {1, api.MaxSector + 1}, {api.MaxSectors, api.MaxSector + 1}, {1, 2 * api.MaxSector}} {
		if disk.New(x[0], x[1]) != nil {
			t.Errorf("New of %d sectors of %d bytes makes a disk", x[0], x[1])
		}
	}
}

// P11.1: a new disk has noughts everywhere.
func TestNewIsNoughts(t *testing.T) {
	for _, x := range [][2]int{{1, 16}, {1, api.MaxSector}, {9, 512}, {300, 17}, {api.MaxSectors, 16}} {
		d := newDisk(t, x[0], x[1])
		for i := range x[0] {
			wantRead(t, "new", d, i, make([]byte, x[1]))
		}
		wantNoRead(t, "new", d, x[0], api.ErrRange)
	}
}

// P11.1: what is written is read behind Write, behind Flush and behind another Write, at each sector of a disk, and at no other one.
func TestWriteIsRead(t *testing.T) {
	const n = 9
	for i := range n {
		d := newDisk(t, n, size)
		want := make([]byte, n)
		for turn, c := range []byte{1, 2, 0, 3, 3} {
			mustWrite(t, d, i, full(c))
			want[i] = c
			wantSectors(t, "behind Write", d, want...)
			wantCached(t, "behind Write", d, i)
			mustWrite(t, d, i, full(c+100))
			want[i] = c + 100
			wantSectors(t, "behind another Write", d, want...)
			wantCached(t, "behind another Write", d, i)
			mustFlush(t, d)
			wantSectors(t, "behind Flush", d, want...)
			wantCached(t, "behind Flush", d)
			wantDone(t, "behind Flush", d, 3*(turn+1))
		}
	}
}

// P11.1: each byte of a sector is its own, at the least and the greatest size.
func TestEachByte(t *testing.T) {
	for _, size := range []int{16, 17, 100, api.MaxSector} {
		b := make([]byte, size)
		for k := range b {
			b[k] = byte(k*7 + k>>8 + 1)
		}
		back := slices.Clone(b)
		slices.Reverse(back)
		d := newDisk(t, 3, size)
		mustWrite(t, d, 0, b)
		mustWrite(t, d, 2, back)
		for range 2 {
			wantRead(t, "each byte", d, 0, b)
			wantRead(t, "each byte", d, 1, make([]byte, size))
			wantRead(t, "each byte", d, 2, back)
			mustFlush(t, d)
		}
	}
}

// P11.1: the first and the last sector of the greatest disk.
func TestGreatest(t *testing.T) {
	d := newDisk(t, api.MaxSectors, api.MaxSector)
	first, last := bytes.Repeat([]byte{1}, api.MaxSector), bytes.Repeat([]byte{2}, api.MaxSector)
	mustWrite(t, d, api.MaxSectors-1, last)
	mustWrite(t, d, 0, first)
	wantCached(t, "greatest", d, 0, api.MaxSectors-1)
	mustFlush(t, d)
	wantRead(t, "greatest", d, 0, first)
	wantRead(t, "greatest", d, api.MaxSectors-1, last)
	wantRead(t, "greatest", d, api.MaxSectors/2, make([]byte, api.MaxSector))
	if e := d.Write(api.MaxSectors, last); e != api.ErrRange {
		t.Errorf("Write behind the last sector: error %d", e)
	}
	wantNoRead(t, "greatest", d, api.MaxSectors, api.ErrRange)
}

// P11.1: ErrRange of Read and Write, with nothing beside it, and nothing changed.
func TestNoSector(t *testing.T) {
	for _, n := range []int{1, 2, 9} {
		d := newDisk(t, n, size)
		mustWrite(t, d, n-1, full(3))
		before := snap(d)
		for _, i := range noSectors(n) {
			wantNoRead(t, "no sector", d, i, api.ErrRange)
			if e := d.Write(i, full(9)); e != api.ErrRange {
				t.Errorf("Write of sector %d of %d: error %d", i, n, e)
			}
			before.want(t, "no sector", d)
		}
	}
}

// P11.1: ErrForm of Write, and nothing changed, of bytes that are nil, too short and too long.
func TestNoContent(t *testing.T) {
	for _, size := range []int{16, 17, 512, api.MaxSector} {
		d := newDisk(t, 3, size)
		mustWrite(t, d, 1, bytes.Repeat([]byte{3}, size))
		before := snap(d)
		for _, b := range noContents(size) {
			for i := range 3 {
				if e := d.Write(i, b); e != api.ErrForm {
					t.Errorf("Write of %d bytes to a sector of %d: error %d", len(b), size, e)
				}
			}
			before.want(t, "no content", d)
		}
	}
}

// P11.1: ErrRange comes ahead of ErrForm.
func TestRangeAheadOfForm(t *testing.T) {
	d := newDisk(t, 3, size)
	for _, i := range noSectors(3) {
		for _, b := range noContents(size) {
			if e := d.Write(i, b); e != api.ErrRange {
				t.Errorf("Write of %d bytes to sector %d: error %d", len(b), i, e)
			}
		}
	}
	snap(newDisk(t, 3, size)).want(t, "refused", d)
}

// P11.1: ErrDown comes ahead of ErrRange and ErrForm, and nothing is changed.
func TestDownAheadOfAll(t *testing.T) {
	d := newDisk(t, 3, size)
	mustWrite(t, d, 1, full(3))
	d.Arm(0)
	if e := d.Flush(); e != api.ErrDown {
		t.Fatalf("Flush without power: error %d", e)
	}
	before := snap(d)
	for _, i := range append(noSectors(3), 0, 1, 2) {
		wantNoRead(t, "down", d, i, api.ErrDown)
		for _, b := range append(noContents(size), full(9)) {
			if e := d.Write(i, b); e != api.ErrDown {
				t.Errorf("Write of %d bytes to sector %d of a disk that is down: error %d", len(b), i, e)
			}
		}
	}
	if e := d.Flush(); e != api.ErrDown {
		t.Errorf("Flush of a disk that is down: error %d", e)
	}
	before.want(t, "down", d)
}

// P11.1: Cached tells sectors rising, each once, in whatever order they were written.
func TestCachedRises(t *testing.T) {
	for _, order := range [][]int{nil, {0}, {8}, {0, 1, 2, 3}, {3, 2, 1, 0}, {8, 0, 4}, {4, 4}, {5, 1, 5, 1, 5}, {7, 3, 7, 0, 3, 8, 8, 1, 0}} {
		d := newDisk(t, 9, size)
		for k, i := range order {
			mustWrite(t, d, i, full(byte(k+1)))
			so := slices.Clone(order[:k+1])
			slices.Sort(so)
			wantCached(t, "rising", d, slices.Compact(so)...)
		}
		mustFlush(t, d)
		wantCached(t, "flushed", d)
	}
	many := newDisk(t, 1000, size)
	for k := range 1000 {
		mustWrite(t, many, k*387%1000, full(byte(k)))
	}
	for k, i := range many.Cached() {
		if i != k {
			t.Fatalf("Cached of a thousand: %d at place %d", i, k)
		}
	}
	if len(many.Cached()) != 1000 {
		t.Errorf("Cached of a thousand: %d", len(many.Cached()))
	}
}

// P11.1: a sector that is written as it is already is cached, too.
func TestCachedAlike(t *testing.T) {
	d := newDisk(t, 3, size)
	mustWrite(t, d, 1, full(0))
	wantCached(t, "the same as it was", d, 1)
	mustFlush(t, d)
	wantCached(t, "flushed", d)
	mustWrite(t, d, 2, full(0))
	wantCached(t, "the same again", d, 2)
}

// P11.1: Done counts Write and Flush that were done, and nothing else.
func TestDone(t *testing.T) {
	d := newDisk(t, 3, size)
	for turn := range 5 {
		done := 5 * turn
		mustFlush(t, d)
		wantDone(t, "a Flush of nothing", d, done+1)
		mustWrite(t, d, 1, full(1))
		wantDone(t, "a Write", d, done+2)
		mustWrite(t, d, 1, full(1))
		wantDone(t, "the same Write", d, done+3)
		mustFlush(t, d)
		mustFlush(t, d)
		wantDone(t, "two Flushes", d, done+5)
		d.Write(3, full(1))
		d.Write(-1, full(1))
		d.Write(0, full(1)[1:])
		d.Write(0, nil)
		wantDone(t, "refused Writes", d, done+5)
		d.Read(0)
		d.Read(3)
		d.Cached()
		d.Sectors()
		d.Tamper(0, full(9))
		d.Tamper(3, full(9))
		d.Copy().Flush()
		d.Differ(d)
		d.Arm(-1)
		d.Crash(turn)
		wantDone(t, "calls that are no commands", d, done+5)
	}
}

// P11.1: two disks of one shape stand for themselves alone.
func TestDisksApart(t *testing.T) {
	var l []*disk.Disk
	for range 4 {
		l = append(l, newDisk(t, 4, size))
	}
	for k, d := range l {
		mustWrite(t, d, k, full(byte(k+1)))
		if k%2 == 0 {
			mustFlush(t, d)
		}
	}
	for k, d := range l {
		want := make([]byte, 4)
		want[k] = byte(k + 1)
		wantSectors(t, "apart", d, want...)
		wantDone(t, "apart", d, 2-k%2)
	}
}
