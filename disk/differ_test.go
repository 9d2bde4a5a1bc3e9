package disk_test

import (
	"slices"
	"testing"

	"syngraph/api"
	"syngraph/disk"
)

// wantDiffer holds two disks of one shape to the sectors that they have not alike, both ways round, and to being the same behind it.
func wantDiffer(t *testing.T, what string, d, o *disk.Disk, want ...int) {
	t.Helper()
	first, second := snap(d), snap(o)
	for _, p := range [][2]*disk.Disk{{d, o}, {o, d}} {
		if l, same := p[0].Differ(p[1]); !same || !slices.Equal(l, want) {
			t.Errorf("%s: Differ: %v, %t, not %v", what, l, same, want)
		}
	}
	first.want(t, "Differ", d)
	second.want(t, "Differ", o)
}

// P11.4: a disk differs in nothing from itself, from its copy, and from another one with the same in it.
func TestDifferInNothing(t *testing.T) {
	d := mixed(t)
	wantDiffer(t, "itself", d, d)
	wantDiffer(t, "its copy", d, d.Copy())
	wantDiffer(t, "another one", d, mixed(t))
	wantDiffer(t, "two new ones", newDisk(t, 6, size), newDisk(t, 6, size))
	wantDiffer(t, "one sector", newDisk(t, 1, size), newDisk(t, 1, size))
}

// P11.4: disks that differ in sectors that were flushed, or tampered with.
func TestDifferInFlushed(t *testing.T) {
	for i := range 6 {
		d, o := newDisk(t, 6, size), newDisk(t, 6, size)
		mustWrite(t, d, i, full(1))
		mustFlush(t, d)
		wantDiffer(t, "flushed", d, o, i)
		mustTamper(t, o, i, full(2))
		wantDiffer(t, "flushed and tampered with", d, o, i)
		mustTamper(t, o, i, full(1))
		wantDiffer(t, "flushed and tampered with alike", d, o)
	}
}

// P11.4: disks that differ in sectors that are cached, on one side or on both.
func TestDifferInCached(t *testing.T) {
	for i := range 6 {
		d, o := newDisk(t, 6, size), newDisk(t, 6, size)
		mustWrite(t, d, i, full(1))
		wantDiffer(t, "cached", d, o, i)
		mustWrite(t, o, i, full(2))
		wantDiffer(t, "both cached", d, o, i)
		mustWrite(t, o, i, full(1))
		wantDiffer(t, "both cached alike", d, o)
		mustFlush(t, d)
		wantDiffer(t, "cached and flushed alike", d, o)
		o.Crash(i)
		wantDiffer(t, "flushed and lost", d, o, i)
	}
}

// P11.4: what is cached on one side alone but is read alike is no difference; what stands alike beneath a cached one is.
func TestDifferByReading(t *testing.T) {
	d, o := mixed(t), mixed(t)
	mustFlush(t, d)
	wantDiffer(t, "flushed on one side", d, o)
	mustWrite(t, d, 0, full(1))
	wantDiffer(t, "cached on one side, as it stands", d, o)
	mustWrite(t, d, 2, full(9))
	mustTamper(t, o, 3, full(4))
	wantDiffer(t, "2 cached, 3 as it stood", d, o, 2, 3)
}

// P11.4: several sectors, rising, in whatever order they were written.
func TestDifferRises(t *testing.T) {
	d, o := newDisk(t, 9, size), newDisk(t, 9, size)
	for _, i := range []int{8, 2, 5, 0} {
		mustWrite(t, d, i, full(byte(i+1)))
	}
	wantDiffer(t, "four cached", d, o, 0, 2, 5, 8)
	mustFlush(t, d)
	for _, i := range []int{7, 2, 1} {
		mustWrite(t, o, i, full(byte(i+1)))
	}
	wantDiffer(t, "some on each side", d, o, 0, 1, 5, 7, 8)
	for i := range 9 {
		mustTamper(t, d, i, full(99))
	}
	wantDiffer(t, "all", d, o, 0, 1, 2, 3, 4, 5, 6, 7, 8)
}

// P11.4: one byte anywhere in a sector is a difference.
func TestDifferInOneByte(t *testing.T) {
	for k := range size {
		d, o := newDisk(t, 2, size), newDisk(t, 2, size)
		b := full(0)
		b[k] = 1
		mustWrite(t, d, 1, b)
		wantDiffer(t, "one byte", d, o, 1)
	}
}

// P11.4: false, and no list, of other sizes and other numbers of sectors, also where both have as many bytes in all.
func TestDifferOfOtherShapes(t *testing.T) {
	shapes := [][2]int{{4, 16}, {4, 17}, {5, 16}, {8, 16}, {4, 32}, {2, 32}, {16, 16}, {1, 16}, {1, api.MaxSector}, {api.MaxSectors, 16}}
	for k, x := range shapes {
		for n, y := range shapes {
			d, o := newDisk(t, x[0], x[1]), newDisk(t, y[0], y[1])
			mustTamper(t, d, 0, make([]byte, x[1]))
			if l, same := d.Differ(o); same != (k == n) || len(l) != 0 {
				t.Errorf("Differ of %v and %v: %v, %t", x, y, l, same)
			}
		}
	}
}

// P11.4: power changes nothing in what Differ tells, nor does Differ use it up.
func TestDifferWithoutPower(t *testing.T) {
	d, o := mixed(t), mixed(t)
	mustWrite(t, o, 4, full(5))
	brought(t, d)
	wantDiffer(t, "one is down", d, o, 4)
	brought(t, o)
	wantDiffer(t, "both are down", d, o, 4)
	wantDiffer(t, "a copy of one that is down", d, d.Copy())
	if l, same := d.Differ(newDisk(t, 5, size)); same || len(l) != 0 {
		t.Errorf("Differ of one that is down and another shape: %v, %t", l, same)
	}
	p := mixed(t)
	p.Arm(0)
	p.Differ(o)
	if p.Down() || p.Flush() != api.ErrDown {
		t.Errorf("Differ used up power")
	}
}
