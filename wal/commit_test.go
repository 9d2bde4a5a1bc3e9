package wal_test

import (
	"bytes"
	"fmt"
	"slices"
	"testing"

	"syngraph/api"
	"syngraph/disk"
	"syngraph/wal"
)

// command is something that a disk does: a Write, or, of a sector below nought, a Flush.
type command struct {
	sector int
	data   []byte
}

// flush is the command of Flush.
func flush() command {
	return command{sector: -1}
}

// do does a command.
func (c command) do(d *disk.Disk) api.Errno {
	if c.sector < 0 {
		return d.Flush()
	}
	return d.Write(c.sector, c.data)
}

// commandsOf tells by the chapter's words which commands a commit does, on a disk of n sectors.
func commandsOf(n, size int, l []wal.Change) []command {
	h := homesOf(n)
	var journal, home []command
	var at []int
	for k, c := range l {
		journal = append(journal, command{1 + h + k, c.Data})
		home = append(home, command{1 + c.At, c.Data})
		at = append(at, c.At)
	}
	return slices.Concat(
		journal, []command{flush(), {0, head(size, at...)}, flush()},
		home, []command{flush(), {0, head(size)}, flush()},
	)
}

// commitAt commits changes on a disk with power for so many commands, and on another one does the same commands one by one; both should be alike.
func commitAt(t *testing.T, d *disk.Disk, arm int, l []wal.Change) {
	t.Helper()
	what := fmt.Sprintf("%d changes, armed with %d", len(l), arm)
	d, want := d.Copy(), d.Copy()
	w := mustOpen(t, d)
	d.Arm(arm)
	want.Arm(arm)
	e := api.OK
	for _, c := range commandsOf(d.Sectors(), d.Size(), l) {
		e = max(e, c.do(want))
	}
	if got := w.Commit(l...); got != e {
		t.Errorf("%s: error %d, not %d", what, got, e)
	}
	wantDown(t, what, w, e == api.ErrDown)
	wantAlike(t, what, d, want)
}

// someChanges are lists of changes for a disk of nine sectors.
func someChanges() [][]wal.Change {
	return [][]wal.Change{
		{change(0, 1)},
		{change(3, 1)},
		{change(0, 1), change(1, 2)},
		{change(3, 9), change(1, 0)},
		{change(2, 3), change(3, 3), change(0, 3)},
		{change(0, 1), change(1, 2), change(2, 3), change(3, 4)},
		{change(3, 1), change(1, 2), change(0, 3), change(2, 4)},
	}
}

// P12.2, and 'A commit': which commands of the disk are done, in which order, and what stands in each sector behind each of them.
func TestCommands(t *testing.T) {
	fresh := newDisk(t, 9, size)
	used := newDisk(t, 9, size)
	mustCommit(t, mustOpen(t, used), change(0, 70), change(1, 71), change(2, 72), change(3, 73))
	for _, d := range []*disk.Disk{fresh, used} {
		for _, l := range someChanges() {
			for arm := range 2*len(l) + 7 {
				commitAt(t, d, arm, l)
			}
			commitAt(t, d, -1, l)
		}
	}
}

// P12.2: the same of other sectors and sizes, of as many changes as there is room for.
func TestCommandsOfOthers(t *testing.T) {
	for _, x := range [][2]int{{3, 32}, {4, 32}, {5, 32}, {8, 33}, {9, 40}, {40, 100}} {
		d := newDisk(t, x[0], x[1])
		w := mustOpen(t, d)
		var l []wal.Change
		for k := range w.Room() {
			at := w.Home() - 1 - k
			l = append(l, wal.Change{At: at, Data: bytes.Repeat([]byte{byte(at + 1)}, x[1])})
		}
		for arm := range 2*len(l) + 7 {
			commitAt(t, d, arm, l)
		}
	}
}

// P12.2: one commit behind the other, each of them read.
func TestCommits(t *testing.T) {
	d := newDisk(t, 10, size)
	w := mustOpen(t, d)
	mustCommit(t, w, change(0, 1))
	wantHome(t, "one change", w, 1, 0, 0, 0, 0)
	mustCommit(t, w, change(4, 2), change(2, 3))
	wantHome(t, "two changes", w, 1, 0, 3, 0, 2)
	mustCommit(t, w, change(3, 4), change(2, 5), change(1, 6), change(0, 7))
	wantHome(t, "four changes", w, 7, 6, 5, 4, 2)
	mustCommit(t, w, change(2, 0))
	wantHome(t, "back to noughts", w, 7, 6, 0, 4, 2)
	mustCommit(t, w, change(2, 0))
	wantHome(t, "the same again", w, 7, 6, 0, 4, 2)
	wantHome(t, "opened again", mustOpen(t, d), 7, 6, 0, 4, 2)
	d.Crash()
	wantHome(t, "crashed and opened again", mustOpen(t, d), 7, 6, 0, 4, 2)
}

// P12.2: each byte of a change comes home, at several sizes.
func TestEachByte(t *testing.T) {
	for _, size := range []int{32, 33, 100, api.MaxSector} {
		b := make([]byte, size)
		for k := range b {
			b[k] = byte(k*7 + k>>8 + 1)
		}
		back := slices.Clone(b)
		slices.Reverse(back)
		d := newDisk(t, 7, size)
		mustCommit(t, mustOpen(t, d), wal.Change{At: 2, Data: b}, wal.Change{At: 0, Data: back})
		w := mustOpen(t, d)
		wantRead(t, "each byte", w, 0, back)
		wantRead(t, "each byte", w, 1, make([]byte, size))
		wantRead(t, "each byte", w, 2, b)
	}
}

// P12.2: as many changes as a head of the greatest sectors names; of one more, ErrFull.
func TestMostChanges(t *testing.T) {
	d := newDisk(t, 1100, api.MaxSector)
	w := mustOpen(t, d)
	var l []wal.Change
	for k := range 511 {
		l = append(l, wal.Change{At: k * 3 % 550, Data: bytes.Repeat([]byte{byte(k)}, api.MaxSector)})
	}
	if e := w.Commit(l...); e != api.ErrFull {
		t.Fatalf("Commit of 511 changes: error %d", e)
	}
	for _, arm := range []int{510, 511, 512, 513, 600, 1022, 1023, 1024, 1025} {
		commitAt(t, d, arm, l[:510])
	}
	mustCommit(t, w, l[:510]...)
	for _, c := range l[:510] {
		wantRead(t, "as many as a head names", w, c.At, c.Data)
	}
	wantRead(t, "not named", w, l[510].At, make([]byte, api.MaxSector))
}

// P12.2: Read tells home sectors alone, not the head nor the journal.
func TestRead(t *testing.T) {
	for n := 3; n < 30; n++ {
		d := newDisk(t, n, size)
		for i := 1; i < n; i++ {
			mustTamper(t, d, i, full(byte(i)))
		}
		w := mustOpen(t, d)
		for i := range w.Home() {
			wantRead(t, "each home sector", w, i, full(byte(i+1)))
		}
		for _, i := range noHomes(w.Home()) {
			wantNoRead(t, "no home sector", w, i, api.ErrRange)
		}
		wantDown(t, "no home sector", w, false)
		if d.Done() != 0 {
			t.Errorf("Read does commands")
		}
	}
}

// refused commits what is no commit, holds it to its error, and the disk to being as it was, with power for nothing.
func refused(t *testing.T, what string, w *wal.Wal, d *disk.Disk, want api.Errno, l ...wal.Change) {
	t.Helper()
	before, down := d.Copy(), w.Down()
	d.Arm(0)
	if e := w.Commit(l...); e != want {
		t.Errorf("%s: error %d, not %d", what, e, want)
	}
	d.Arm(-1)
	wantAlike(t, what, d, before)
	wantDown(t, what, w, down)
}

// withChanges makes a disk of nine sectors, of 1 to 4 at home.
func withChanges(t *testing.T) (*disk.Disk, *wal.Wal) {
	t.Helper()
	d := newDisk(t, 9, size)
	w := mustOpen(t, d)
	mustCommit(t, w, change(0, 1), change(1, 2), change(2, 3), change(3, 4))
	return d, w
}

// P12.2: of no changes nothing is done.
func TestCommitOfNothing(t *testing.T) {
	d, w := withChanges(t)
	refused(t, "nothing", w, d, api.OK)
	refused(t, "a nil list", w, d, api.OK, []wal.Change(nil)...)
	refused(t, "an empty list", w, d, api.OK, []wal.Change{}...)
	wantHome(t, "nothing", w, 1, 2, 3, 4)
}

// P12.2: ErrRange, if a change names no home sector, at each place, and ahead of the other errors.
func TestCommitOfNoHome(t *testing.T) {
	d, w := withChanges(t)
	for _, i := range noHomes(4) {
		refused(t, "no home sector", w, d, api.ErrRange, change(i, 9))
		for place := range 3 {
			l := []wal.Change{change(0, 9), change(1, 9), change(2, 9)}
			l[place].At = i
			refused(t, "no home sector, with others", w, d, api.ErrRange, l...)
		}
		for _, b := range noData(size) {
			refused(t, "and no data", w, d, api.ErrRange, wal.Change{At: i, Data: b})
			refused(t, "behind no data", w, d, api.ErrRange, wal.Change{At: 0, Data: b}, change(i, 9))
		}
		refused(t, "twice", w, d, api.ErrRange, change(i, 9), change(i, 9))
		refused(t, "behind one that is named twice", w, d, api.ErrRange, change(0, 9), change(0, 9), change(i, 9))
		refused(t, "and too many", w, d, api.ErrRange, change(0, 9), change(1, 9), change(2, 9), change(3, 9), change(i, 9))
	}
	wantHome(t, "no home sector", w, 1, 2, 3, 4)
}

// P12.2: ErrForm, of data that is nil, too short or too long, at each place, and ahead of ErrFull.
func TestCommitOfNoData(t *testing.T) {
	d, w := withChanges(t)
	for _, b := range noData(size) {
		refused(t, "no data", w, d, api.ErrForm, wal.Change{At: 1, Data: b})
		for place := range 4 {
			l := []wal.Change{change(0, 9), change(1, 9), change(2, 9), change(3, 9)}
			l[place].Data = b
			refused(t, "no data, with others", w, d, api.ErrForm, l...)
		}
	}
	wantHome(t, "no data", w, 1, 2, 3, 4)
	five := newDisk(t, 10, size)
	w = mustOpen(t, five)
	for place := range 5 {
		l := []wal.Change{change(0, 9), change(1, 9), change(2, 9), change(3, 9), change(4, 9)}
		refused(t, "too many", w, five, api.ErrFull, l...)
		l[place].Data = nil
		refused(t, "too many, and no data", w, five, api.ErrForm, l...)
	}
}

// P12.2: ErrForm, if two changes name one home sector, with one data or others, side by side or apart, and ahead of ErrFull.
func TestCommitNamesTwice(t *testing.T) {
	d, w := withChanges(t)
	for i := range 4 {
		refused(t, "twice", w, d, api.ErrForm, change(i, 9), change(i, 8))
		refused(t, "twice alike", w, d, api.ErrForm, change(i, 9), change(i, 9))
		o := (i + 1) % 4
		refused(t, "twice, apart", w, d, api.ErrForm, change(i, 9), change(o, 8), change(i, 7))
		refused(t, "twice, behind", w, d, api.ErrForm, change(o, 8), change(i, 9), change(i, 7))
		refused(t, "twice, as often as there is room for", w, d, api.ErrForm, change(i, 9), change(i, 8), change(i, 7), change(i, 6))
		refused(t, "twice, too many", w, d, api.ErrForm, change(0, 9), change(1, 9), change(2, 9), change(3, 9), change(i, 9))
	}
	wantHome(t, "twice", w, 1, 2, 3, 4)
	refused(t, "far too many", w, d, api.ErrForm, slices.Repeat([]wal.Change{change(1, 9)}, 1000)...)
}

// P12.2: ErrFull, of one change more than there is room for, where the journal is the bound and where the head is.
func TestCommitOfTooMany(t *testing.T) {
	for _, x := range [][2]int{{4, 32}, {6, 64}, {10, 64}, {6, 32}, {7, 32}, {100, 32}, {9, 40}, {100, 64}, {14, 64}} {
		d := newDisk(t, x[0], x[1])
		w := mustOpen(t, d)
		var l []wal.Change
		for at := range w.Home() {
			l = append(l, wal.Change{At: at, Data: bytes.Repeat([]byte{byte(at + 1)}, x[1])})
		}
		for n := w.Room() + 1; n <= len(l); n++ {
			refused(t, "too many", w, d, api.ErrFull, l[:n]...)
		}
		mustCommit(t, w, l[:w.Room()]...)
	}
}

// P12.2: behind ErrDown all is ErrDown, ahead of the other errors, and nothing is done, whatever becomes of the disk.
func TestBehindDown(t *testing.T) {
	d, w := withChanges(t)
	d.Arm(0)
	if e := w.Commit(change(0, 9)); e != api.ErrDown {
		t.Fatalf("Commit without power: error %d", e)
	}
	for range 2 {
		for _, i := range append(noHomes(4), 0, 1, 2, 3) {
			wantNoRead(t, "down", w, i, api.ErrDown)
			refused(t, "down", w, d, api.ErrDown, change(i, 9))
			refused(t, "down, and no data", w, d, api.ErrDown, wal.Change{At: i})
			refused(t, "down, and twice", w, d, api.ErrDown, change(i, 9), change(i, 9))
		}
		refused(t, "down, and nothing", w, d, api.OK)
		refused(t, "down, and too many", w, d, api.ErrDown, slices.Repeat([]wal.Change{change(1, 9)}, 5)...)
		wantShape(t, w, 4, 4, size)
		d.Crash()
	}
	wantHome(t, "opened anew", mustOpen(t, d), 1, 2, 3, 4)
}

// P12.2: what is refused changes nothing: the same commit goes on as if it had not been.
func TestRefusedThenRight(t *testing.T) {
	d, w := withChanges(t)
	o := d.Copy()
	v := mustOpen(t, o)
	w.Commit(change(0, 9), change(4, 9))
	w.Commit(change(1, 9), change(1, 8))
	w.Commit(wal.Change{At: 2})
	w.Commit(change(0, 9), change(1, 9), change(2, 9), change(3, 9), change(0, 9))
	w.Commit()
	mustCommit(t, w, change(2, 9), change(0, 8))
	mustCommit(t, v, change(2, 9), change(0, 8))
	wantAlike(t, "refused, then right", d, o)
}
