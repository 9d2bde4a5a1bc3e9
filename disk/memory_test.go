package disk_test

import (
	"bytes"
	"slices"
	"testing"

	"syngraph/api"
	"syngraph/disk"
)

// roomy tells the same bytes with spare room behind them that has something in it.
func roomy(b []byte) []byte {
	return append(slices.Clone(b), 0xaa, 0xbb, 0xcc)[:len(b)]
}

// spoil fills bytes with other ones, their spare room too.
func spoil(b []byte) {
	b = b[:cap(b)]
	for i := range b {
		b[i] = 0xee
	}
}

// spoilNumbers fills numbers with other ones, their spare room too.
func spoilNumbers(l []int) {
	l = l[:cap(l)]
	for i := range l {
		l[i] = -77
	}
}

// puts are the calls that put bytes into a sector.
func puts() []func(d *disk.Disk, i int, b []byte) api.Errno {
	return []func(d *disk.Disk, i int, b []byte) api.Errno{
		(*disk.Disk).Write,
		(*disk.Disk).Tamper,
		func(d *disk.Disk, i int, b []byte) api.Errno { d.Arm(0); return d.Write(i, b) },
		func(d *disk.Disk, i int, b []byte) api.Errno {
			e := d.Write(i, b)
			d.Flush()
			return e
		},
	}
}

// P11.5: bytes that are handed in are the same behind the call, with their spare room, also where they are refused.
func TestBytesNotChanged(t *testing.T) {
	for _, put := range puts() {
		for _, b := range append(noContents(size), full(5)) {
			for _, i := range []int{0, 2, 5, -1, 6} {
				d := mixed(t)
				given := roomy(b)
				then := slices.Clone(given[:cap(given)])
				put(d, i, given)
				d.Crash()
				d.Write(i, full(9))
				d.Flush()
				d.Tamper(i, full(8))
				spoil(mustRead(t, d, 0))
				if !bytes.Equal(given[:cap(given)], then) {
					t.Fatalf("%d bytes for sector %d, or what is behind them, were changed", len(b), i)
				}
			}
		}
	}
}

// P11.5: changing bytes that were handed in changes nothing of the disk, cached, flushed or tampered with, nor of a copy.
func TestBytesNotKept(t *testing.T) {
	for _, put := range puts() {
		d := newDisk(t, 3, size)
		b := roomy(full(5))
		put(d, 1, b)
		o := d.Copy()
		spoil(b)
		d.Crash()
		o.Crash()
		wantSectors(t, "bytes changed behind", d, 0, 5, 0)
		wantSectors(t, "bytes changed behind, a copy", o, 0, 5, 0)
		put(d, 2, b)
		d.Crash()
		wantSectors(t, "the same bytes again", d, 0, 5, 0xee)
		spoil(b[:0])
		b[0] = 1
		wantSectors(t, "the same bytes changed again", d, 0, 5, 0xee)
	}
}

// P11.5: one list of bytes for two sectors is no bond between them.
func TestBytesOfTwoSectors(t *testing.T) {
	d := newDisk(t, 3, size)
	b := full(5)
	mustWrite(t, d, 0, b)
	mustWrite(t, d, 1, b)
	mustTamper(t, d, 2, b)
	spoil(mustRead(t, d, 0))
	mustWrite(t, d, 1, full(6))
	wantSectors(t, "two of one list", d, 5, 6, 5)
	mustFlush(t, d)
	mustTamper(t, d, 0, full(7))
	wantSectors(t, "two of one list", d, 7, 6, 5)
}

// P11.5: the list of what is lost is the same behind Crash, with its spare room, and changing it brings nothing back.
func TestLostNotChanged(t *testing.T) {
	for _, lost := range [][]int{{3}, {5, 3, 1}, {3, 3, 9, -1}, {1, 4}} {
		d := mixed(t)
		given := append(slices.Clone(lost), 5, 1, 3)[:len(lost)]
		then := slices.Clone(given[:cap(given)])
		d.Crash(given...)
		after := snap(d)
		mustWrite(t, d, 0, full(1))
		mustFlush(t, d)
		if !slices.Equal(given[:cap(given)], then) {
			t.Errorf("what is lost, or what is behind it, was changed: %v", given)
		}
		spoilNumbers(given)
		after.done += 2
		after.want(t, "changing what was lost", d)
	}
}

// P11.5: what Read told is the caller's own, its spare room too: changing it changes nothing of the disk, of its copies, or of what was told; and the disk doesn't reach it.
func TestReadIsNew(t *testing.T) {
	d := mixed(t)
	o := d.Copy()
	same := snap(d)
	for i := range 6 {
		first, second, other := mustRead(t, d, i), mustRead(t, d, i), mustRead(t, o, i)
		then := slices.Clone(second)
		spoil(append(first, 1))
		spoil(first)
		if !bytes.Equal(second, then) || !bytes.Equal(other, then) {
			t.Fatalf("changing what was read of sector %d changed what was read else", i)
		}
		same.want(t, "changing what was read", d)
		same.want(t, "changing what was read", o)
	}
	for i := range 6 {
		b := mustRead(t, d, i)
		then := slices.Clone(b)
		p := d.Copy()
		mustWrite(t, p, i, full(99))
		mustFlush(t, p)
		mustTamper(t, p, i, full(98))
		p.Crash(i)
		if !bytes.Equal(b, then) {
			t.Fatalf("what was read of sector %d was changed behind it", i)
		}
	}
}

// P11.5: what Read told of a new disk is its own, too, sector by sector.
func TestReadOfNewIsNew(t *testing.T) {
	d := newDisk(t, 4, size)
	spoil(mustRead(t, d, 2))
	wantSectors(t, "changing what was read of a new disk", d, 0, 0, 0, 0)
	wantSectors(t, "changing what was read of another new disk", newDisk(t, 4, size), 0, 0, 0, 0)
}

// P11.5: writing what was read to another sector, and changing it then, changes neither.
func TestReadIsWritten(t *testing.T) {
	d := mixed(t)
	b := mustRead(t, d, 5)
	mustWrite(t, d, 0, b)
	mustTamper(t, d, 4, b)
	spoil(b)
	wantSectors(t, "what was read, written and changed", d, 16, 12, 3, 14, 16, 16)
}

// P11.5: what Cached and Differ told is the caller's own, and the disk doesn't reach it.
func TestNumbersAreNew(t *testing.T) {
	d, o := mixed(t), newDisk(t, 6, size)
	same := snap(d)
	for _, tell := range []func() []int{
		d.Cached,
		func() []int { l, _ := d.Differ(o); return l },
	} {
		first, second := tell(), tell()
		then := slices.Clone(second)
		spoilNumbers(append(first, 1))
		spoilNumbers(first)
		if !slices.Equal(second, then) || !slices.Equal(tell(), then) {
			t.Fatalf("changing numbers that were told changed other ones")
		}
		same.want(t, "changing numbers that were told", d)
		p := d.Copy()
		p.Crash()
		mustWrite(t, d, 0, full(1))
		d.Crash(0)
		if !slices.Equal(second, then) {
			t.Fatalf("numbers that were told were changed behind")
		}
		d = mixed(t)
	}
}
