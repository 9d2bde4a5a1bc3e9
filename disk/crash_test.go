package disk_test

import (
	"math"
	"slices"
	"testing"

	"syngraph/api"
	"syngraph/disk"
)

// mixed makes a disk of six sectors: 0 to 3 were flushed with 1 to 4, and 1, 3 and 5 are cached with 12, 14 and 16.
func mixed(t *testing.T) *disk.Disk {
	t.Helper()
	d := newDisk(t, 6, size)
	for i := range 4 {
		mustWrite(t, d, i, full(byte(i+1)))
	}
	mustFlush(t, d)
	for _, i := range []int{5, 1, 3} {
		mustWrite(t, d, i, full(byte(i+11)))
	}
	wantCached(t, "mixed", d, 1, 3, 5)
	return d
}

// brought brings the power of a disk down, with nothing more cached.
func brought(t *testing.T, d *disk.Disk) *disk.Disk {
	t.Helper()
	d.Arm(0)
	if e := d.Flush(); e != api.ErrDown {
		t.Fatalf("Flush without power: error %d", e)
	}
	return d
}

// wantCrashed crashes a disk, one that is up and one that is down, and holds it to what is there then, and to taking commands again.
func wantCrashed(t *testing.T, what string, lost []int, want ...byte) {
	t.Helper()
	for _, d := range []*disk.Disk{mixed(t), brought(t, mixed(t))} {
		done := d.Done()
		d.Crash(lost...)
		wantSectors(t, what, d, want...)
		wantCached(t, what, d)
		wantDone(t, what, d, done)
		if d.Down() {
			t.Fatalf("%s: down", what)
		}
		mustWrite(t, d, 2, full(99))
		mustFlush(t, d)
		useUp(t, d, 40, 0x55)
		wantDone(t, what, d, done+42)
	}
}

// The chapter's example.
func TestExample(t *testing.T) {
	d := newDisk(t, 9, size)
	mustWrite(t, d, 3, full(1))
	mustFlush(t, d)
	mustWrite(t, d, 3, full(7))
	mustWrite(t, d, 5, full(8))
	d.Crash(3)
	wantSectors(t, "the example", d, 0, 0, 0, 1, 0, 8, 0, 0, 0)
}

// P11.2: a crash that loses nothing.
func TestCrashLosesNothing(t *testing.T) {
	wantCrashed(t, "nothing", nil, 1, 12, 3, 14, 0, 16)
	wantCrashed(t, "an empty list", []int{}, 1, 12, 3, 14, 0, 16)
}

// P11.2: a crash that loses one sector, several, all, in any order, and some named twice.
func TestCrashLoses(t *testing.T) {
	wantCrashed(t, "1", []int{1}, 1, 2, 3, 14, 0, 16)
	wantCrashed(t, "3", []int{3}, 1, 12, 3, 4, 0, 16)
	wantCrashed(t, "5", []int{5}, 1, 12, 3, 14, 0, 0)
	wantCrashed(t, "1 and 5", []int{1, 5}, 1, 2, 3, 14, 0, 0)
	wantCrashed(t, "5 and 1", []int{5, 1}, 1, 2, 3, 14, 0, 0)
	wantCrashed(t, "all", []int{3, 1, 5}, 1, 2, 3, 4, 0, 0)
	wantCrashed(t, "3 twice", []int{3, 3}, 1, 12, 3, 4, 0, 16)
	wantCrashed(t, "many times", []int{5, 3, 5, 3, 3, 5, 5}, 1, 12, 3, 4, 0, 0)
}

// P11.2: sectors that are not cached, and those that there are not, lose nothing.
func TestCrashLosesOthers(t *testing.T) {
	others := append(noSectors(6), 0, 2, 4)
	for _, i := range others {
		wantCrashed(t, "another one", []int{i}, 1, 12, 3, 14, 0, 16)
	}
	wantCrashed(t, "all others", others, 1, 12, 3, 14, 0, 16)
	wantCrashed(t, "all others, twice", slices.Concat(others, others), 1, 12, 3, 14, 0, 16)
	wantCrashed(t, "all others, and 1", append(others, 1), 1, 2, 3, 14, 0, 16)
	wantCrashed(t, "1, and all others", append([]int{1}, others...), 1, 2, 3, 14, 0, 16)
}

// P11.2: each set of sectors, lost.
func TestCrashLosesAnySet(t *testing.T) {
	for set := range 1 << 6 {
		want := []byte{1, 12, 3, 14, 0, 16}
		stood := []byte{1, 2, 3, 4, 0, 0}
		var lost []int
		for i := range 6 {
			if set>>i&1 == 1 {
				lost = append(lost, i)
				want[i] = stood[i]
			}
		}
		wantCrashed(t, "a set", lost, want...)
	}
}

// P11.2: what is lost is all that was written behind the last flush, not the last Write alone.
func TestCrashLosesAllWrites(t *testing.T) {
	d := newDisk(t, 3, size)
	mustWrite(t, d, 1, full(1))
	mustFlush(t, d)
	for c := byte(2); c < 6; c++ {
		mustWrite(t, d, 1, full(c))
		mustWrite(t, d, 2, full(c))
	}
	d.Crash(1)
	wantSectors(t, "all writes of 1", d, 0, 1, 5)
}

// P11.2: a disk that crashes again and again, and is written between.
func TestCrashAgain(t *testing.T) {
	d := newDisk(t, 3, size)
	want := make([]byte, 3)
	for turn := range 30 {
		d.Arm(turn % 4)
		for i := range 3 {
			c := byte(3*turn + i + 1)
			if e := d.Write(i, full(c)); (e == api.OK) != (i < turn%4) {
				t.Fatalf("Write %d, armed with %d: error %d", i, turn%4, e)
			}
			if i <= turn%4 && i != turn%3 {
				want[i] = c
			}
		}
		d.Crash(turn % 3)
		wantSectors(t, "again", d, want...)
		d.Crash()
		d.Crash(0, 1, 2)
		wantSectors(t, "twice at once", d, want...)
	}
}

// P11.2: behind a crash a disk is not armed, whatever it was armed with, and may be armed anew.
func TestCrashDisarms(t *testing.T) {
	for _, n := range []int{0, 1, 2, 7, math.MaxInt} {
		d := newDisk(t, 3, size)
		d.Arm(n)
		d.Crash()
		useUp(t, d, 40, 0x55)
		d.Arm(1)
		useUp(t, d, 1, 0)
		if e := d.Flush(); e != api.ErrDown || !d.Down() {
			t.Errorf("armed anew: error %d", e)
		}
		d.Crash()
		useUp(t, d, 40, 0x55)
	}
}
