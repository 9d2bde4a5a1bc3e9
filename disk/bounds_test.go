package disk_test

import (
	"math"
	"testing"

	"syngraph/api"
	"syngraph/disk"
)

// anyNumbers are such as may be handed in for any number.
func anyNumbers() []int {
	var l []int
	for _, at := range []int{0, 1, 15, 16, 17, api.MaxSector, api.MaxSectors, 1 << 31, 1 << 32, 1 << 48, math.MaxInt32, math.MaxInt - 1} {
		l = append(l, at-1, at, at+1, -at, -at-1)
	}
	return append(l, math.MinInt, math.MinInt+1)
}

// callAll makes each call that a disk has, at these arguments.
func callAll(d *disk.Disk, i int, b []byte) {
	d.Sectors()
	d.Size()
	d.Read(i)
	d.Write(i, b)
	d.Tamper(i, b)
	d.Cached()
	d.Differ(d)
	d.Differ(d.Copy())
	d.Arm(i)
	d.Write(i, b)
	d.Flush()
	d.Down()
	d.Done()
	d.Crash()
	d.Crash(i)
	d.Write(i, b)
	d.Crash(i, i, -1, i)
}

// P1 of DOC.md: every call ends and none panics, of disks at all bounds, at any numbers and any bytes.
func TestAnyArguments(t *testing.T) {
	for _, x := range [][2]int{{1, 16}, {1, api.MaxSector}, {2, 17}, {api.MaxSectors, 16}} {
		d := newDisk(t, x[0], x[1])
		contents := append(noContents(x[1]), make([]byte, x[1]))
		if x[0] == api.MaxSectors {
			contents = contents[len(contents)-2:]
		}
		for _, i := range anyNumbers() {
			for _, b := range contents {
				callAll(d, i, b)
			}
		}
	}
}

// P1 of DOC.md, and P11.1: New ends at any two numbers, with a disk exactly where both are within their bounds.
func TestNewOfAnyNumbers(t *testing.T) {
	for _, n := range anyNumbers() {
		for _, size := range anyNumbers() {
			d := disk.New(n, size)
			if within := n >= 1 && n <= 65536 && size >= 16 && size <= 4096; (d != nil) != within {
				t.Errorf("New of %d sectors of %d bytes: a disk %t", n, size, d != nil)
			}
		}
	}
}
