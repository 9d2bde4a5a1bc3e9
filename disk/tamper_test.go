package disk_test

import (
	"math"
	"testing"

	"syngraph/api"
	"syngraph/disk"
)

// mustTamper tampers with a sector that there is.
func mustTamper(t *testing.T, d *disk.Disk, i int, b []byte) {
	t.Helper()
	if e := d.Tamper(i, b); e != api.OK {
		t.Fatalf("Tamper with sector %d: error %d", i, e)
	}
}

// P11.3: a sector that is in the cache has what was put there, the cache has nothing of it, and so no crash loses it and no flush brings the other back.
func TestTamperWithCached(t *testing.T) {
	for _, lost := range [][]int{nil, {3}, {1, 3, 5}, {0, 1, 2, 3, 4, 5}} {
		d := mixed(t)
		mustTamper(t, d, 3, full(77))
		wantSectors(t, "tampered", d, 1, 12, 3, 77, 0, 16)
		wantCached(t, "tampered", d, 1, 5)
		o := d.Copy()
		mustFlush(t, o)
		wantSectors(t, "tampered and flushed", o, 1, 12, 3, 77, 0, 16)
		d.Crash(lost...)
		wantRead(t, "tampered and crashed", d, 3, full(77))
	}
}

// P11.3: a sector that is not in the cache.
func TestTamperWithOther(t *testing.T) {
	d := mixed(t)
	mustTamper(t, d, 2, full(77))
	mustTamper(t, d, 4, full(78))
	wantSectors(t, "tampered", d, 1, 12, 77, 14, 78, 16)
	wantCached(t, "tampered", d, 1, 3, 5)
	d.Crash(0, 1, 2, 3, 4, 5)
	wantSectors(t, "tampered and crashed", d, 1, 2, 77, 4, 78, 0)
}

// P11.3: what is written behind Tamper is cached above it, and lost down to it.
func TestWriteBehindTamper(t *testing.T) {
	d := mixed(t)
	mustTamper(t, d, 3, full(77))
	mustTamper(t, d, 3, full(78))
	mustWrite(t, d, 3, full(5))
	wantSectors(t, "written", d, 1, 12, 3, 5, 0, 16)
	wantCached(t, "written", d, 1, 3, 5)
	o := d.Copy()
	o.Crash()
	wantRead(t, "kept", o, 3, full(5))
	d.Crash(3)
	wantRead(t, "lost", d, 3, full(78))
}

// P11.3: a disk that is down is tampered with, and stays down.
func TestTamperWithDown(t *testing.T) {
	d := brought(t, mixed(t))
	mustTamper(t, d, 1, full(77))
	mustTamper(t, d, 4, full(78))
	for _, i := range noSectors(6) {
		if e := d.Tamper(i, full(1)); e != api.ErrRange {
			t.Errorf("Tamper with sector %d of a disk that is down: error %d", i, e)
		}
	}
	for _, b := range noContents(size) {
		if e := d.Tamper(1, b); e != api.ErrForm {
			t.Errorf("Tamper with %d bytes, of a disk that is down: error %d", len(b), e)
		}
	}
	wantCached(t, "tampered while down", d, 3, 5)
	wantDone(t, "tampered while down", d, 8)
	wantDown(t, "tampered while down", d)
	d.Crash(1, 5)
	wantSectors(t, "tampered while down", d, 1, 77, 3, 14, 78, 0)
}

// P11.3: ErrRange and ErrForm, the first of them ahead, and nothing changed.
func TestTamperRefused(t *testing.T) {
	d := mixed(t)
	before := snap(d)
	for _, i := range noSectors(6) {
		for _, b := range append(noContents(size), full(1)) {
			if e := d.Tamper(i, b); e != api.ErrRange {
				t.Errorf("Tamper with sector %d, %d bytes: error %d", i, len(b), e)
			}
		}
	}
	for i := range 6 {
		for _, b := range noContents(size) {
			if e := d.Tamper(i, b); e != api.ErrForm {
				t.Errorf("Tamper with sector %d, %d bytes: error %d", i, len(b), e)
			}
		}
	}
	before.want(t, "refused", d)
}

// P11.3: Tamper is no command: it uses up no power, and isn't counted.
func TestTamperIsNoCommand(t *testing.T) {
	d := mixed(t)
	d.Arm(1)
	for range 20 {
		mustTamper(t, d, 0, full(77))
	}
	wantDone(t, "tampered", d, 8)
	mustFlush(t, d)
	mustTamper(t, d, 0, full(78))
	if e := d.Flush(); d.Done() != 9 || e != api.ErrDown {
		t.Errorf("the second Flush: error %d, %d done", e, d.Done())
	}
}

// P11.3: a copy tells the same in all calls, of a disk that is up, armed or down, with and without something cached.
func TestCopyIsTheSame(t *testing.T) {
	for _, arm := range []int{-1, 0, 1, 2, 5, math.MaxInt} {
		for used := range 7 {
			d := mixed(t)
			d.Arm(arm)
			for k := range used {
				if k%3 == 2 {
					d.Flush()
				} else {
					d.Write(k, full(byte(50+k)))
				}
			}
			o := d.Copy()
			snap(d).hold(t, "a copy", o)
			if l, same := d.Differ(o); !same || len(l) != 0 {
				t.Fatalf("a copy differs: %v, %t", l, same)
			}
			for k := range 9 {
				if e, f := d.Write(k, full(byte(k))), o.Write(k, full(byte(k))); e != f || d.Down() != o.Down() {
					t.Fatalf("armed with %d, used %d: Write %d: error %d, of the copy %d", arm, used, k, e, f)
				}
				if e, f := d.Flush(), o.Flush(); e != f || d.Down() != o.Down() {
					t.Fatalf("armed with %d, used %d: Flush %d: error %d, of the copy %d", arm, used, k, e, f)
				}
				snap(d).hold(t, "a copy going on", o)
			}
		}
	}
}

// turns are calls that change a disk, each by itself.
func turns() []func(d *disk.Disk) {
	return []func(d *disk.Disk){
		func(d *disk.Disk) { d.Write(0, full(200)) },
		func(d *disk.Disk) { d.Write(1, full(201)) },
		func(d *disk.Disk) { d.Flush() },
		func(d *disk.Disk) { d.Crash() },
		func(d *disk.Disk) { d.Crash(1) },
		func(d *disk.Disk) { d.Crash(1, 3, 5) },
		func(d *disk.Disk) { d.Tamper(1, full(202)) },
		func(d *disk.Disk) { d.Tamper(2, full(203)) },
		func(d *disk.Disk) { d.Arm(0); d.Flush() },
		func(d *disk.Disk) { d.Arm(0); d.Write(3, full(204)) },
		func(d *disk.Disk) { d.Arm(0) },
	}
}

// P11.3: what is done to a disk is not seen at its copy, nor at a copy of that, and the other way round.
func TestCopyIsApart(t *testing.T) {
	for k, first := range turns() {
		for n, second := range turns() {
			d := mixed(t)
			if (k+n)%2 == 1 {
				mustFlush(t, d)
			}
			same := snap(d)
			o := d.Copy()
			p := o.Copy()
			first(d)
			same.want(t, "a call at what was copied", o)
			same.want(t, "a call at what was copied", p)
			then := snap(d)
			second(p)
			same.want(t, "a call at the copy's copy", o)
			then.want(t, "a call at the copy's copy", d)
			behind := snap(p)
			first(o)
			second(o)
			then.want(t, "calls at the copy", d)
			behind.want(t, "calls at the copy", p)
		}
	}
}

// P11.3: arming a disk doesn't arm its copy, and using up the one's power doesn't use up the other's.
func TestCopyHasItsPower(t *testing.T) {
	d := newDisk(t, 3, size)
	o := d.Copy()
	d.Arm(0)
	useUp(t, o, 30, 0x55)
	d.Arm(4)
	o = d.Copy()
	useUp(t, d, 4, 0x55)
	if d.Flush() != api.ErrDown || o.Down() {
		t.Fatalf("a copy's power went with another one's")
	}
	useUp(t, o, 4, 0x55)
	if o.Flush() != api.ErrDown {
		t.Errorf("a copy's power didn't go")
	}
	p := o.Copy()
	o.Crash()
	if !p.Down() || o.Down() {
		t.Errorf("a copy's power came back with another one's")
	}
}
