package wal_test

import (
	"bytes"
	"slices"
	"testing"

	"syngraph/api"
	"syngraph/disk"
	"syngraph/wal"
)

// roomy tells the same bytes with spare room behind them that has something in it.
func roomy(b []byte) []byte {
	return append(slices.Clone(b), 0xaa, 0xbb, 0xcc)[:len(b)]
}

// spoil fills bytes with other ones, their spare room too.
func spoil(b []byte) {
	b = b[:cap(b)]
	for i := range b {
		b[i] = 0xee
	}
}

// roomyChanges tells the same changes with spare room behind each one's data and behind the list.
func roomyChanges(l []wal.Change) []wal.Change {
	given := make([]wal.Change, 0, len(l)+2)
	for _, c := range l {
		given = append(given, wal.Change{At: c.At, Data: roomy(c.Data)})
	}
	return append(given, change(1, 0xaa), change(99, 0xbb))[:len(l)]
}

// spoilChanges fills changes with other ones, their spare room too.
func spoilChanges(l []wal.Change) {
	l = l[:cap(l)]
	for k := range l {
		spoil(l[k].Data)
		l[k] = wal.Change{At: -77}
	}
}

// deep tells changes once more, with all that is behind them.
func deep(l []wal.Change) []wal.Change {
	var o []wal.Change
	for _, c := range l[:cap(l)] {
		o = append(o, wal.Change{At: c.At, Data: slices.Clone(c.Data[:cap(c.Data)])})
	}
	return o
}

// wantSame holds changes, with all that is behind them, to being as they were.
func wantSame(t *testing.T, what string, l []wal.Change, then []wal.Change) {
	t.Helper()
	if !slices.EqualFunc(deep(l), then, func(a, b wal.Change) bool { return a.At == b.At && bytes.Equal(a.Data, b.Data) }) {
		t.Errorf("%s: changes, or what is behind them, were changed", what)
	}
}

// listsOfAllKinds are changes that may be made, and such as are refused.
func listsOfAllKinds() [][]wal.Change {
	return append(someChanges(),
		nil,
		[]wal.Change{change(4, 9)},
		[]wal.Change{change(3, 9), change(-1, 9)},
		[]wal.Change{change(3, 9), {At: 1, Data: full(9)[1:]}, {At: 2}},
		[]wal.Change{change(3, 9), change(1, 8), change(3, 7), change(0, 7)},
		[]wal.Change{change(3, 9), change(2, 8), change(1, 7), change(0, 7), change(0, 6)},
	)
}

// P12.4: changes that are handed in are the same behind Commit, in their order, with their spare room, also where they are refused or the power goes.
func TestChangesNotChanged(t *testing.T) {
	for _, l := range listsOfAllKinds() {
		for _, arm := range []int{-1, 0, 3, 7} {
			d, w := withChanges(t)
			given := roomyChanges(l)
			then := deep(given)
			d.Arm(arm)
			w.Commit(given...)
			wantSame(t, "committed", given, then)
			d.Crash()
			mustCommit(t, mustOpen(t, d), change(0, 77), change(3, 78))
			d.Tamper(2, full(9))
			wantSame(t, "committed, and others behind", given, then)
		}
	}
}

// P12.4: too many changes are the same behind Commit, too.
func TestManyChangesNotChanged(t *testing.T) {
	d := newDisk(t, 10, size)
	given := roomyChanges([]wal.Change{change(4, 1), change(3, 2), change(0, 3), change(2, 4), change(1, 5)})
	then := deep(given)
	if e := mustOpen(t, d).Commit(given...); e != api.ErrFull {
		t.Errorf("Commit of five changes: error %d", e)
	}
	wantSame(t, "too many", given, then)
}

// P12.4: changing changes that were handed in changes nothing that is told later, behind Commit, or behind a crash in it.
func TestChangesNotKept(t *testing.T) {
	l := []wal.Change{change(2, 11), change(0, 12)}
	for arm := range 11 {
		d, w := withChanges(t)
		o := d.Copy()
		v := mustOpen(t, o)
		given := roomyChanges(l)
		d.Arm(arm)
		o.Arm(arm)
		if w.Commit(given...) != v.Commit(l...) {
			t.Fatalf("armed with %d: two errors", arm)
		}
		spoilChanges(given)
		wantAlike(t, "changes changed behind", d, o)
		d.Crash()
		o.Crash()
		wantAlike(t, "changes changed behind a crash", d, o)
		if !bytes.Equal(home(t, mustOpen(t, d)), home(t, mustOpen(t, o))) {
			t.Errorf("armed with %d: home isn't the same", arm)
		}
	}
}

// P12.4: one list of bytes for two changes is no bond between them.
func TestDataOfTwoChanges(t *testing.T) {
	d := newDisk(t, 9, size)
	w := mustOpen(t, d)
	b := roomy(full(5))
	mustCommit(t, w, wal.Change{At: 0, Data: b}, wal.Change{At: 2, Data: b})
	spoil(b)
	read, _ := w.Read(0)
	spoil(read)
	wantHome(t, "two of one list", w, 5, 0, 5, 0)
	mustCommit(t, w, change(0, 6))
	wantHome(t, "two of one list, one changed", w, 6, 0, 5, 0)
}

// P12.4: what Read told is the caller's own, its spare room too: changing it changes nothing of the wal, and the wal doesn't reach it.
func TestReadIsNew(t *testing.T) {
	d, w := withChanges(t)
	before := d.Copy()
	var told [][]byte
	for i := range 4 {
		first, e := w.Read(i)
		second, _ := w.Read(i)
		if e != api.OK {
			t.Fatalf("Read of home sector %d: error %d", i, e)
		}
		spoil(append(first, 1))
		spoil(first)
		if !bytes.Equal(second, full(byte(i+1))) {
			t.Errorf("changing what was read of home sector %d changed what was read else", i)
		}
		told = append(told, second)
	}
	wantHome(t, "changing what was read", w, 1, 2, 3, 4)
	wantAlike(t, "changing what was read", d, before)
	mustCommit(t, w, change(0, 91), change(1, 92), change(2, 93), change(3, 94))
	for i := range 4 {
		mustTamper(t, d, 1+i, full(0))
	}
	for i, b := range told {
		if !bytes.Equal(b, full(byte(i+1))) {
			t.Errorf("what was read of home sector %d was changed behind it", i)
		}
	}
}

// P12.4: what Read told may be committed, and changed then.
func TestReadIsCommitted(t *testing.T) {
	d, w := withChanges(t)
	b, _ := w.Read(3)
	mustCommit(t, w, wal.Change{At: 0, Data: b}, wal.Change{At: 1, Data: b})
	spoil(b)
	wantHome(t, "what was read, committed and changed", w, 4, 4, 3, 4)
	wantHome(t, "what was read, committed and changed, opened anew", mustOpen(t, d), 4, 4, 3, 4)
}

// P12.4: a wal works on the disk that it was opened on, and on no copy of it, whichever way round.
func TestDiskIsKept(t *testing.T) {
	d, w := withChanges(t)
	o := d.Copy()
	v := mustOpen(t, o)
	mustCommit(t, w, change(0, 11))
	mustCommit(t, v, change(1, 12))
	wantHome(t, "the disk", w, 11, 2, 3, 4)
	wantHome(t, "its copy", v, 1, 12, 3, 4)
	mustTamper(t, d, 3, full(13))
	wantHome(t, "tampered with", w, 11, 2, 13, 4)
	wantHome(t, "its copy, not tampered with", v, 1, 12, 3, 4)
	bring(t, o)
	wantNoRead(t, "its copy, down", v, 0, api.ErrDown)
	wantHome(t, "the disk, not down", w, 11, 2, 13, 4)
}

// P12.4: wals on disks of their own stand for themselves alone, and Open leaves nothing behind for the next one.
func TestWalsApart(t *testing.T) {
	var disks []*disk.Disk
	var wals []*wal.Wal
	for range 4 {
		d := newDisk(t, 9, size)
		disks, wals = append(disks, d), append(wals, mustOpen(t, d))
	}
	for k, w := range wals {
		mustCommit(t, w, change(k, byte(k+1)))
	}
	bring(t, disks[3])
	wantNoRead(t, "apart, down", wals[3], 3, api.ErrDown)
	for k, w := range wals[:3] {
		want := make([]byte, 4)
		want[k] = byte(k + 1)
		wantHome(t, "apart", w, want...)
	}
}
