package wal_test

import (
	"bytes"
	"math"
	"slices"
	"testing"

	"syngraph/api"
	"syngraph/disk"
	"syngraph/wal"
	"syngraph/wire"
)

// size is how many bytes the sectors of most disks here have.
const size = 64

// full tells a sector of one byte.
func full(c byte) []byte {
	return bytes.Repeat([]byte{c}, size)
}

// change tells that home sector at gets one byte all over.
func change(at int, c byte) wal.Change {
	return wal.Change{At: at, Data: full(c)}
}

// numbered tells a sector of some bytes that begins with these numbers, in the bytes of layer 3, and has noughts behind them.
func numbered(size int, numbers ...int) []byte {
	var o wire.Out
	for _, n := range numbers {
		o.Int(n)
	}
	b := make([]byte, size)
	copy(b, o.All())
	return b
}

// head tells a head that names these home sectors.
func head(size int, at ...int) []byte {
	return numbered(size, append([]int{1, len(at)}, at...)...)
}

// homesOf tells how many home sectors a disk of n sectors should have, in whole numbers alone: less 1, divided by 2, rounded up.
func homesOf(n int) int {
	h := 0
	for rest := n - 1; rest > 0; rest -= 2 {
		h++
	}
	return h
}

// newDisk makes a disk that may be.
func newDisk(t *testing.T, n, size int) *disk.Disk {
	t.Helper()
	d := disk.New(n, size)
	if d == nil {
		t.Fatalf("New of %d sectors of %d bytes: none", n, size)
	}
	return d
}

// mustTamper puts b into a sector of a disk.
func mustTamper(t *testing.T, d *disk.Disk, i int, b []byte) {
	t.Helper()
	if e := d.Tamper(i, b); e != api.OK {
		t.Fatalf("Tamper of sector %d: error %d", i, e)
	}
}

// mustOpen opens a disk that has a wal, and power.
func mustOpen(t *testing.T, d *disk.Disk) *wal.Wal {
	t.Helper()
	w, e := wal.Open(d)
	if e != api.OK || w == nil {
		t.Fatalf("Open of %d sectors of %d bytes: error %d", d.Sectors(), d.Size(), e)
	}
	return w
}

// mustCommit makes changes that may be made, of a wal whose disk has power.
func mustCommit(t *testing.T, w *wal.Wal, l ...wal.Change) {
	t.Helper()
	if e := w.Commit(l...); e != api.OK {
		t.Fatalf("Commit of %d changes: error %d", len(l), e)
	}
}

// bring brings the power of a disk down.
func bring(t *testing.T, d *disk.Disk) *disk.Disk {
	t.Helper()
	d.Arm(0)
	if e := d.Flush(); e != api.ErrDown {
		t.Fatalf("Flush without power: error %d", e)
	}
	return d
}

// wantNoWal holds Open to an error with no wal beside it.
func wantNoWal(t *testing.T, what string, d *disk.Disk, want api.Errno) {
	t.Helper()
	if w, e := wal.Open(d); e != want || w != nil {
		t.Errorf("%s: Open: a wal %t, error %d, not %d", what, w != nil, e, want)
	}
}

// wantShape holds a wal to its three numbers.
func wantShape(t *testing.T, w *wal.Wal, home, room, size int) {
	t.Helper()
	if w.Home() != home || w.Room() != room || w.Size() != size {
		t.Errorf("Home %d, Room %d, Size %d, not %d, %d, %d", w.Home(), w.Room(), w.Size(), home, room, size)
	}
}

// wantRead holds a home sector to what it should be read as.
func wantRead(t *testing.T, what string, w *wal.Wal, i int, want []byte) {
	t.Helper()
	if b, e := w.Read(i); e != api.OK || !bytes.Equal(b, want) {
		t.Errorf("%s: Read of home sector %d: %v, error %d, not %v", what, i, b, e, want)
	}
}

// wantHome holds all home sectors of a wal to one byte for each.
func wantHome(t *testing.T, what string, w *wal.Wal, want ...byte) {
	t.Helper()
	if w.Home() != len(want) {
		t.Fatalf("%s: %d home sectors, not %d", what, w.Home(), len(want))
	}
	for i, c := range want {
		wantRead(t, what, w, i, bytes.Repeat([]byte{c}, w.Size()))
	}
}

// wantNoRead holds Read to an error with nothing beside it.
func wantNoRead(t *testing.T, what string, w *wal.Wal, i int, want api.Errno) {
	t.Helper()
	if b, e := w.Read(i); e != want || len(b) != 0 {
		t.Errorf("%s: Read of home sector %d: %v, error %d, not %d", what, i, b, e, want)
	}
}

// wantDown holds Down of a wal.
func wantDown(t *testing.T, what string, w *wal.Wal, want bool) {
	t.Helper()
	if w.Down() != want {
		t.Errorf("%s: Down: %t", what, w.Down())
	}
}

// wantAlike holds a disk to being the same as another one, in all that is told of it: as it is read, by what is cached, and behind a crash that loses all of that or nothing.
func wantAlike(t *testing.T, what string, d, want *disk.Disk) {
	t.Helper()
	if d.Done() != want.Done() || d.Down() != want.Down() {
		t.Errorf("%s: %d done, down %t, not %d, %t", what, d.Done(), d.Down(), want.Done(), want.Down())
	}
	if l, same := d.Differ(want); !same || len(l) > 0 {
		t.Errorf("%s: sectors %v are not as they should be", what, l)
	}
	cached := want.Cached()
	if l := d.Cached(); !slices.Equal(l, cached) {
		t.Errorf("%s: %v cached, not %v", what, l, cached)
	}
	for _, lost := range [][]int{nil, cached} {
		c, o := d.Copy(), want.Copy()
		c.Crash(lost...)
		o.Crash(lost...)
		if l, same := c.Differ(o); !same || len(l) > 0 {
			t.Errorf("%s, crashed: sectors %v are not as they should be", what, l)
		}
	}
}

// noHomes tells numbers that are no home sector's, of a wal that has n.
func noHomes(n int) []int {
	return []int{-1, -2, -n, n, n + 1, 2 * n, math.MinInt, math.MinInt + 1, math.MaxInt, math.MaxInt - 1, 1 << 32, -1 << 32, 1 << 31, -1 << 31, api.MaxSectors, api.MaxSectors + 1}
}

// noData tells bytes that are none for a sector of so many.
func noData(size int) [][]byte {
	long := bytes.Repeat([]byte{7}, 3*size)
	return [][]byte{nil, {}, {7}, long[:size/2], long[:size-1], long[:size+1], long[:2*size], long}
}

// The chapter's example.
func TestExample(t *testing.T) {
	d := newDisk(t, 9, size)
	w := mustOpen(t, d)
	wantShape(t, w, 4, 4, size)
	mustCommit(t, w, change(3, 1), change(0, 2))
	for sector, want := range [][]byte{head(size), full(2), full(0), full(0), full(1), full(1), full(2), full(0), full(0)} {
		if b, _ := d.Read(sector); !bytes.Equal(b, want) {
			t.Errorf("sector %d: %v, not %v", sector, b, want)
		}
	}
}

// P12.1: Home, Room and Size of a wal, where the journal is the bound.
func TestShapeByJournal(t *testing.T) {
	for _, x := range []struct{ sectors, home, journal int }{{3, 1, 1}, {4, 2, 1}, {5, 2, 2}, {6, 3, 2}, {7, 3, 3}, {8, 4, 3}, {9, 4, 4}, {10, 5, 4}, {11, 5, 5}, {12, 6, 5}, {13, 6, 6}} {
		wantShape(t, mustOpen(t, newDisk(t, x.sectors, size)), x.home, x.journal, size)
	}
	wantShape(t, mustOpen(t, newDisk(t, 1020, api.MaxSector)), 510, 509, api.MaxSector)
	wantShape(t, mustOpen(t, newDisk(t, 1021, api.MaxSector)), 510, 510, api.MaxSector)
}

// P12.1: Home, Room and Size of a wal, where the head is the bound: its mark and its count take 16 bytes, and each name 8.
func TestShapeByHead(t *testing.T) {
	for _, x := range []struct{ sectors, size, home, room int }{
		{3, 32, 1, 1}, {4, 32, 2, 1}, {5, 32, 2, 2}, {6, 32, 3, 2}, {7, 32, 3, 2}, {100, 32, 50, 2},
		{7, 33, 3, 2}, {7, 39, 3, 2}, {7, 40, 3, 3}, {8, 40, 4, 3}, {100, 40, 50, 3}, {100, 47, 50, 3}, {100, 48, 50, 4},
		{13, 63, 6, 5}, {13, 64, 6, 6}, {15, 64, 7, 6}, {1000, 64, 500, 6},
		{1022, api.MaxSector, 511, 510}, {1023, api.MaxSector, 511, 510}, {api.MaxSectors, api.MaxSector, 32768, 510}, {api.MaxSectors - 1, 32, 32767, 2},
	} {
		w := mustOpen(t, newDisk(t, x.sectors, x.size))
		wantShape(t, w, x.home, x.room, x.size)
	}
}

// P12.1: the home sectors of each number of sectors are half of those behind the head, rounded up; the others bound Room.
func TestShapeOfMany(t *testing.T) {
	for n := 3; n < 300; n++ {
		for _, size := range []int{32, 64, 1000, api.MaxSector} {
			w := mustOpen(t, newDisk(t, n, size))
			h := homesOf(n)
			wantShape(t, w, h, min(n-1-h, (size-16)/8), size)
		}
	}
}

// P12.1: ErrRange, of disks with too few sectors, or too small ones, whatever stands on them.
func TestOpenTooSmall(t *testing.T) {
	for _, x := range [][2]int{{1, 16}, {2, 16}, {3, 16}, {9, 16}, {1, 31}, {2, 31}, {3, 31}, {9, 31}, {api.MaxSectors, 31}, {1, 32}, {2, 32}, {1, api.MaxSector}, {2, api.MaxSector}} {
		for _, c := range []byte{0, 9} {
			d := newDisk(t, x[0], x[1])
			mustTamper(t, d, 0, bytes.Repeat([]byte{c}, x[1]))
			before := d.Copy()
			wantNoWal(t, "too small", d, api.ErrRange)
			wantAlike(t, "too small", d, before)
			wantNoWal(t, "too small and down", bring(t, d), api.ErrRange)
		}
	}
}

// P12.1: a new disk is opened, of the least sectors and sizes too, without a command done.
func TestOpenNew(t *testing.T) {
	for _, x := range [][2]int{{3, 32}, {3, 33}, {4, 32}, {5, 32}, {9, 512}, {3, api.MaxSector}, {api.MaxSectors, 32}} {
		d := newDisk(t, x[0], x[1])
		before := d.Copy()
		w := mustOpen(t, d)
		wantAlike(t, "new", d, before)
		for i := range w.Home() {
			wantRead(t, "new", w, i, make([]byte, x[1]))
		}
		wantDown(t, "new", w, false)
	}
}

// P12.1: the disk's error comes behind ErrRange and ahead of ErrBad: a disk that is down isn't opened, right or not.
func TestOpenDown(t *testing.T) {
	for _, b := range [][]byte{full(0), head(size), head(size, 1), full(9), numbered(size, 1, 99)} {
		d := newDisk(t, 9, size)
		mustTamper(t, d, 0, b)
		bring(t, d)
		before := d.Copy()
		wantNoWal(t, "down", d, api.ErrDown)
		wantAlike(t, "down", d, before)
	}
}

// P12.1: a wal is down from the first answer on that was ErrDown, and not ahead of it; that of other errors brings none down.
func TestDown(t *testing.T) {
	d := newDisk(t, 9, size)
	w := mustOpen(t, d)
	wantDown(t, "opened", w, false)
	mustCommit(t, w, change(1, 1))
	w.Read(4)
	w.Commit(change(4, 1))
	w.Commit(change(1, 1), change(1, 2))
	w.Commit(change(0, 1), change(1, 2), change(2, 2), change(3, 2), change(0, 3))
	wantDown(t, "refused", w, false)
	d.Arm(3)
	wantDown(t, "armed", w, false)
	if e := w.Commit(change(1, 3)); e != api.ErrDown {
		t.Fatalf("Commit without power enough: error %d", e)
	}
	wantDown(t, "behind ErrDown", w, true)
	d.Crash()
	wantDown(t, "behind ErrDown, and a crash", w, true)
	wantDown(t, "opened anew", mustOpen(t, d), false)
}

// P12.1: the power may also be found to be gone, by Read or by Commit.
func TestDownByFinding(t *testing.T) {
	for _, find := range []func(w *wal.Wal) api.Errno{
		func(w *wal.Wal) api.Errno { _, e := w.Read(1); return e },
		func(w *wal.Wal) api.Errno { return w.Commit(change(1, 1)) },
	} {
		d := newDisk(t, 9, size)
		w := mustOpen(t, d)
		bring(t, d)
		wantDown(t, "not found yet", w, false)
		wantNoRead(t, "not found yet", w, 4, api.ErrRange)
		wantDown(t, "not found yet", w, false)
		if e := find(w); e != api.ErrDown {
			t.Errorf("found to be down: error %d", e)
		}
		wantDown(t, "found", w, true)
		wantNoRead(t, "found", w, 4, api.ErrDown)
	}
}
