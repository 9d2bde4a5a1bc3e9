package wal_test

import (
	"bytes"
	"math"
	"testing"

	"syngraph/api"
	"syngraph/disk"
	"syngraph/wal"
)

// anyNumbers are such as may be handed in for any number.
func anyNumbers() []int {
	var l []int
	for _, at := range []int{0, 1, 2, 4, 5, 8, 9, 32768, api.MaxSectors, 1 << 31, 1 << 32, 1 << 61, math.MaxInt - 1} {
		l = append(l, at-1, at, at+1, -at, -at-1)
	}
	return append(l, math.MinInt, math.MinInt+1)
}

// callAll opens a disk, and makes each call that its wal has, if it has one, at these arguments.
func callAll(d *disk.Disk, i int, b []byte) {
	w, e := wal.Open(d)
	if e != api.OK {
		return
	}
	w.Home()
	w.Room()
	w.Size()
	w.Down()
	c := wal.Change{At: i, Data: b}
	for range 2 {
		w.Read(i)
		w.Commit()
		w.Commit(wal.Change{})
		w.Commit(c)
		w.Commit(c, c)
		w.Commit(wal.Change{At: i - 1, Data: b}, c, wal.Change{At: i + 1, Data: b})
	}
}

// P1 of DOC.md: every call ends and none panics, of disks at all bounds, at any numbers and any data.
func TestAnyArguments(t *testing.T) {
	for _, n := range []int{1, 2, 3, 4, 9} {
		for _, size := range []int{16, 31, 32, 33} {
			for _, b := range append(noData(size), make([]byte, size)) {
				for _, i := range anyNumbers() {
					d := newDisk(t, n, size)
					callAll(d, i, b)
					d.Arm(len(b) % 5)
					callAll(d, i, b)
					callAll(d, i, b)
				}
			}
		}
	}
}

// P1 of DOC.md: the same of the greatest disks.
func TestAnyArgumentsOfGreatest(t *testing.T) {
	for _, size := range []int{32, api.MaxSector} {
		d := newDisk(t, api.MaxSectors, size)
		for _, i := range anyNumbers() {
			callAll(d, i, make([]byte, size))
			callAll(d, i, nil)
		}
	}
}

// P1 of DOC.md, and P12.1: heads of any numbers.
func TestHeadsOfAnyNumbers(t *testing.T) {
	for _, mark := range []int{0, 1, 2, -1} {
		for _, count := range anyNumbers() {
			for _, at := range anyNumbers() {
				d := newDisk(t, 9, 33)
				mustTamper(t, d, 0, numbered(33, mark, count, at))
				right := mark == 0 && count == 0 && at == 0 || mark == 1 && (count == 0 && at == 0 || (count == 1 || count == 2) && at >= 0 && at < 4)
				if w, e := wal.Open(d); (e == api.OK) != right || (w != nil) != right || !right && e != api.ErrBad {
					t.Errorf("a head of %d, %d, %d: error %d", mark, count, at, e)
				}
			}
		}
	}
}

// P1 of DOC.md: far more changes than there is room for.
func TestFarTooMany(t *testing.T) {
	d := newDisk(t, api.MaxSectors, 32)
	w := mustOpen(t, d)
	l := make([]wal.Change, 32768)
	b := bytes.Repeat([]byte{1}, 32)
	for at := range l {
		l[at] = wal.Change{At: at, Data: b}
	}
	refused(t, "all home sectors", w, d, api.ErrFull, l...)
	refused(t, "all home sectors, twice", w, d, api.ErrForm, append(l, l...)...)
	refused(t, "one beyond", w, d, api.ErrRange, append(l, wal.Change{At: 32768, Data: b})...)
}
