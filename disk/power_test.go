package disk_test

import (
	"math"
	"testing"

	"syngraph/api"
	"syngraph/disk"
)

// useUp does so many commands on a disk, Writes and Flushes by turns as which tells.
func useUp(t *testing.T, d *disk.Disk, n, which int) {
	t.Helper()
	for k := range n {
		if d.Down() {
			t.Fatalf("down ahead of command %d of %d", k+1, n)
		}
		if which>>(k%8)&1 == 0 {
			mustWrite(t, d, k%d.Sectors(), full(byte(k+1)))
		} else {
			mustFlush(t, d)
		}
	}
}

// wantDown holds a disk to being down: each call that tells an error tells ErrDown, and does nothing.
func wantDown(t *testing.T, what string, d *disk.Disk) {
	t.Helper()
	if !d.Down() {
		t.Fatalf("%s: not down", what)
	}
	before := snap(d)
	for i := -1; i <= d.Sectors(); i++ {
		wantNoRead(t, what, d, i, api.ErrDown)
		if e := d.Write(i, full(0xee)); e != api.ErrDown {
			t.Errorf("%s: Write of sector %d: error %d", what, i, e)
		}
		if e := d.Write(i, nil); e != api.ErrDown {
			t.Errorf("%s: Write of nothing to sector %d: error %d", what, i, e)
		}
		if e := d.Flush(); e != api.ErrDown {
			t.Errorf("%s: Flush: error %d", what, e)
		}
	}
	before.want(t, what, d)
}

// 'Power': so many commands are done, and a Write is the next one: it tells ErrDown, and stands in the cache; it is not counted.
func TestPowerGoesInWrite(t *testing.T) {
	for n := range 20 {
		for _, which := range []int{0, 0xff, 0x55, 0xaa, 0x6c} {
			d, o := newDisk(t, 4, size), newDisk(t, 4, size)
			d.Arm(n)
			useUp(t, d, n, which)
			useUp(t, o, n, which)
			mustWrite(t, o, 2, full(0xdd))
			if e := d.Write(2, full(0xdd)); e != api.ErrDown {
				t.Fatalf("armed with %d: the next Write: error %d", n, e)
			}
			wantDone(t, "a Write without power", d, n)
			wantCached(t, "a Write without power", d, o.Cached()...)
			wantDown(t, "a Write without power", d)
			d.Crash()
			wantRead(t, "a Write without power, behind the crash", d, 2, full(0xdd))
			if l, same := d.Differ(o); !same || len(l) != 0 {
				t.Errorf("armed with %d: behind the crash other sectors: %v", n, l)
			}
		}
	}
}

// 'Power': so many commands are done, and a Flush is the next one: it tells ErrDown, and does nothing.
func TestPowerGoesInFlush(t *testing.T) {
	for n := range 20 {
		for _, which := range []int{0, 0xff, 0x55, 0xaa, 0x6c} {
			d, o := newDisk(t, 4, size), newDisk(t, 4, size)
			d.Arm(n)
			useUp(t, d, n, which)
			useUp(t, o, n, which)
			if e := d.Flush(); e != api.ErrDown {
				t.Fatalf("armed with %d: the next Flush: error %d", n, e)
			}
			wantDone(t, "a Flush without power", d, n)
			wantCached(t, "a Flush without power", d, o.Cached()...)
			wantDown(t, "a Flush without power", d)
			d.Crash(0, 1, 2, 3)
			o.Crash(0, 1, 2, 3)
			if l, same := d.Differ(o); !same || len(l) != 0 {
				t.Errorf("armed with %d: behind the crash other sectors: %v", n, l)
			}
		}
	}
}

// 'Power': the Write that meets the end takes the place of what the cache had of its sector.
func TestLastWriteIsCached(t *testing.T) {
	d := newDisk(t, 3, size)
	mustWrite(t, d, 1, full(1))
	mustFlush(t, d)
	mustWrite(t, d, 1, full(2))
	d.Arm(0)
	if e := d.Write(1, full(3)); e != api.ErrDown {
		t.Fatalf("Write without power: error %d", e)
	}
	wantCached(t, "the last Write", d, 1)
	o := d.Copy()
	d.Crash()
	wantSectors(t, "the last Write kept", d, 0, 3, 0)
	o.Crash(1)
	wantSectors(t, "the last Write lost", o, 0, 1, 0)
}

// 'Power': calls that are no commands use up no power: Write where another error is told, Read, Tamper and the others; they bring nothing down.
func TestNoCommands(t *testing.T) {
	d := newDisk(t, 3, size)
	for n := range 4 {
		d.Arm(n)
		for left := n; left >= 0; left-- {
			for range 3 {
				if d.Write(3, full(1)) != api.ErrRange || d.Write(-1, nil) != api.ErrRange || d.Write(0, nil) != api.ErrForm || d.Tamper(0, full(2)) != api.OK {
					t.Fatalf("Write or Tamper with power for %d: other errors", left)
				}
				wantRead(t, "armed", d, 0, full(2))
				wantNoRead(t, "armed", d, 3, api.ErrRange)
				wantCached(t, "armed", d)
				d.Done()
				d.Copy().Flush()
				d.Differ(d)
				if d.Down() {
					t.Fatalf("down with power for %d", left)
				}
			}
			if e := d.Flush(); (e == api.OK) != (left > 0) {
				t.Fatalf("Flush with power for %d: error %d", left, e)
			}
		}
		wantDown(t, "used up", d)
		d.Crash()
	}
}

// P11.2: what a disk was armed with last holds, whatever was done ahead of it.
func TestArmAnew(t *testing.T) {
	for first := -1; first < 6; first++ {
		for used := range 3 {
			for n := range 6 {
				d := newDisk(t, 4, size)
				d.Arm(first)
				if first >= 0 && used > first {
					continue
				}
				useUp(t, d, used, 0x55)
				d.Arm(n)
				useUp(t, d, n, 0xaa)
				if d.Down() || d.Flush() != api.ErrDown || !d.Down() {
					t.Errorf("armed with %d, then with %d: down %t", first, n, d.Down())
				}
				wantDone(t, "armed anew", d, used+n)
			}
		}
	}
}

// P11.2: a disk that is armed with a number below nought is not armed any more.
func TestArmNoMore(t *testing.T) {
	for _, below := range []int{-1, -2, -1 << 31, -1 << 32, math.MinInt, math.MinInt + 1} {
		for n := range 4 {
			d := newDisk(t, 4, size)
			d.Arm(n)
			useUp(t, d, n, 0x55)
			d.Arm(below)
			useUp(t, d, 300, 0x3c)
			if d.Down() {
				t.Errorf("armed with %d, then with %d: down", n, below)
			}
			wantDone(t, "not armed any more", d, n+300)
		}
	}
}

// P11.2: a disk that was never armed stays up, and so does one that is armed with more than is done.
func TestArmFar(t *testing.T) {
	for _, n := range []int{-1, 301, 1 << 31, 1 << 32, math.MaxInt - 1, math.MaxInt} {
		d := newDisk(t, 4, size)
		if n >= 0 {
			d.Arm(n)
		}
		useUp(t, d, 300, 0x3c)
		if d.Down() {
			t.Errorf("armed with %d: down behind 300 commands", n)
		}
	}
}

// P11.2: Arm doesn't bring the power back, and Down doesn't change anything.
func TestArmOfDown(t *testing.T) {
	for _, n := range []int{-1, 0, 1, 5, math.MinInt, math.MaxInt} {
		d := newDisk(t, 4, size)
		mustWrite(t, d, 3, full(3))
		d.Arm(0)
		if d.Down() || d.Down() {
			t.Fatalf("down ahead of the command")
		}
		if e := d.Flush(); e != api.ErrDown {
			t.Fatalf("Flush without power: error %d", e)
		}
		d.Arm(n)
		wantDown(t, "armed while it is down", d)
		d.Crash()
		wantSectors(t, "armed while it was down", d, 0, 0, 0, 3)
		useUp(t, d, 30, 0x55)
	}
}
