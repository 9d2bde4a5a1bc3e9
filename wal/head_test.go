package wal_test

import (
	"bytes"
	"math"
	"slices"
	"testing"

	"syngraph/api"
	"syngraph/disk"
)

// The disks here have nine sectors: four home sectors behind the head, of 1 to 4, and four journal sectors, of 5 to 8.
func headed(t *testing.T, b []byte) *disk.Disk {
	t.Helper()
	d := newDisk(t, 9, len(b))
	mustTamper(t, d, 0, b)
	for i := 1; i < 9; i++ {
		mustTamper(t, d, i, bytes.Repeat([]byte{byte(i)}, len(b)))
	}
	return d
}

// wantOpened holds a disk with a head to being opened, with these bytes at home.
func wantOpened(t *testing.T, what string, b []byte, want ...byte) {
	t.Helper()
	w := mustOpen(t, headed(t, b))
	wantHome(t, what, w, want...)
	wantDown(t, what, w, false)
}

// wantBad holds a disk with a head to not being opened, and to being as it was behind it.
func wantBad(t *testing.T, what string, b []byte) {
	t.Helper()
	d := headed(t, b)
	before := d.Copy()
	wantNoWal(t, what, d, api.ErrBad)
	wantAlike(t, what, d, before)
}

// P12.1: heads without changes are right, and opening does no command.
func TestHeadWithoutChanges(t *testing.T) {
	for _, size := range []int{32, 33, 39, 40, 64, 512, api.MaxSector} {
		for _, b := range [][]byte{make([]byte, size), head(size)} {
			wantOpened(t, "no changes", b, 1, 2, 3, 4)
			d := headed(t, b)
			before := d.Copy()
			mustOpen(t, d)
			wantAlike(t, "no changes", d, before)
		}
	}
}

// P12.1: what heads with changes name comes home from the journal, the first one's data from its first sector.
func TestHeadWithChanges(t *testing.T) {
	for at := range 4 {
		want := []byte{1, 2, 3, 4}
		want[at] = 5
		wantOpened(t, "one change", head(size, at), want...)
		wantOpened(t, "one change, of the least sectors", head(32, at), want...)
	}
	wantOpened(t, "two changes", head(size, 0, 1), 5, 6, 3, 4)
	wantOpened(t, "two changes, falling", head(size, 3, 1), 1, 6, 3, 5)
	wantOpened(t, "three changes", head(size, 1, 2, 3), 1, 5, 6, 7)
	wantOpened(t, "four changes", head(size, 0, 1, 2, 3), 5, 6, 7, 8)
	wantOpened(t, "four changes, falling", head(size, 3, 2, 1, 0), 8, 7, 6, 5)
	wantOpened(t, "a full head", head(32, 2, 0), 6, 2, 5, 4)
	wantOpened(t, "a full head, and a byte that is none's", head(33, 2, 0), 6, 2, 5, 4)
}

// P12.1, and 'The head': of a home sector that stands twice there, or more often, what is written last stays.
func TestHeadNamesTwice(t *testing.T) {
	wantOpened(t, "twice", head(size, 2, 2), 1, 2, 6, 4)
	wantOpened(t, "twice, the least sectors", head(32, 0, 0), 6, 2, 3, 4)
	wantOpened(t, "twice, with others", head(size, 2, 0, 2), 6, 2, 7, 4)
	wantOpened(t, "both twice", head(size, 3, 1, 1, 3), 1, 7, 3, 8)
	wantOpened(t, "all one", head(size, 1, 1, 1, 1), 1, 8, 3, 4)
}

// 'To recover': which commands are done, and that the journal stays as it is.
func TestHeadIsCleared(t *testing.T) {
	for _, at := range [][]int{{0}, {3, 1}, {2, 2}, {3, 2, 1, 0}} {
		d := headed(t, head(size, at...))
		want := d.Copy()
		for k, i := range at {
			want.Write(1+i, full(byte(5+k)))
		}
		want.Flush()
		want.Write(0, head(size))
		want.Flush()
		mustOpen(t, d)
		wantAlike(t, "recovered", d, want)
		mustOpen(t, d)
		wantAlike(t, "recovered, and opened again", d, want)
	}
}

// P12.1: ErrBad, of a number ahead that is not 1.
func TestHeadOfAnotherMark(t *testing.T) {
	for _, mark := range []int{0, 2, 3, -1, 256, 1 << 32, 1<<32 + 1, math.MaxInt, math.MinInt, math.MinInt + 1} {
		for _, rest := range [][]int{{1, 2}, {2, 1, 3}, {0, 0, 1}} {
			wantBad(t, "another mark", numbered(size, append([]int{mark}, rest...)...))
		}
		if mark != 0 {
			wantBad(t, "another mark, with no changes", numbered(size, mark))
		}
	}
}

// P12.1: ErrBad, of a count that is below nought, or more than there is room for.
func TestHeadOfNoCount(t *testing.T) {
	for _, count := range []int{-1, 5, 6, 7, 8, 256, 1<<32 + 1, -1 << 32, math.MaxInt, math.MinInt} {
		wantBad(t, "no count", numbered(size, 1, count))
		wantBad(t, "no count, with names", numbered(size, 1, count, 0, 1, 2, 3, 0, 1))
	}
	for _, size := range []int{32, 33, 39} {
		wantOpened(t, "as many as there is room for", numbered(size, 1, 2), 6, 2, 3, 4)
		wantBad(t, "more than the head has room for", numbered(size, 1, 3))
		wantBad(t, "more than the head has room for", numbered(size, 1, 3, 1, 2, 3))
		wantBad(t, "as many as the journal has room for", numbered(size, 1, 4))
	}
	wantOpened(t, "as many as the journal has room for", numbered(size, 1, 4, 0, 1, 2, 3), 5, 6, 7, 8)
}

// P12.1: ErrBad, of a name that is no home sector's, at each place.
func TestHeadOfNoHome(t *testing.T) {
	for _, i := range noHomes(4) {
		for place := range 4 {
			at := []int{0, 1, 2, 3}
			at[place] = i
			wantBad(t, "no home sector", head(size, at...))
			wantBad(t, "no home sector", head(size, at[place]))
			wantBad(t, "no home sector", head(size, at[:place+1]...))
		}
	}
}

// P12.1: ErrBad, of anything that is not nought behind the changes, at each byte.
func TestHeadWithMoreBehind(t *testing.T) {
	for _, size := range []int{32, 33, 39, 40, 41, 64} {
		for _, at := range [][]int{nil, {0}, {3, 1}} {
			right := head(size, at...)
			for k := 16 + 8*len(at); k < size; k++ {
				for _, c := range []byte{1, 128, 255} {
					b := slices.Clone(right)
					b[k] = c
					wantBad(t, "something behind", b)
				}
			}
		}
	}
	wantBad(t, "names behind", numbered(size, 1, 1, 2, 3))
	wantBad(t, "a name behind, without changes", numbered(size, 1, 0, 2))
}

// P12.1: ErrBad, of anything that is not nought in a head of noughts, but where that is the number 1 ahead.
func TestHeadOfAlmostNoughts(t *testing.T) {
	for _, size := range []int{32, 33, 64, 500} {
		for k := range size {
			for _, c := range []byte{1, 2, 255} {
				b := make([]byte, size)
				b[k] = c
				if k != 7 || c != 1 {
					wantBad(t, "almost noughts", b)
				}
			}
		}
	}
}

// P12.1: ErrBad stays, as nothing is changed by it; it goes with the head.
func TestHeadIsMended(t *testing.T) {
	d := headed(t, full(9))
	for range 3 {
		wantNoWal(t, "bad", d, api.ErrBad)
		d.Crash()
	}
	mustTamper(t, d, 0, head(size, 2))
	wantHome(t, "mended", mustOpen(t, d), 1, 2, 5, 4)
}

// P12.1: the first error of each command that Open does, with no wal beside it: what was done of it stands on the disk.
func TestOpenWithoutPowerEnough(t *testing.T) {
	at := []int{3, 1, 0}
	for arm := range 6 {
		d := headed(t, head(size, at...))
		want := d.Copy()
		d.Arm(arm)
		want.Arm(arm)
		e := api.OK
		for k, i := range at {
			e = max(e, want.Write(1+i, full(byte(5+k))))
		}
		e = max(e, want.Flush(), want.Write(0, head(size)), want.Flush())
		if e != api.ErrDown {
			t.Fatalf("armed with %d, all is done", arm)
		}
		wantNoWal(t, "without power enough", d, api.ErrDown)
		wantAlike(t, "without power enough", d, want)
		d.Crash()
		wantHome(t, "with power again", mustOpen(t, d), 7, 6, 3, 5)
	}
	d := headed(t, head(size, at...))
	d.Arm(6)
	wantHome(t, "with power enough", mustOpen(t, d), 7, 6, 3, 5)
	if d.Down() || d.Flush() != api.ErrDown {
		t.Errorf("opening three changes takes other than six commands")
	}
}

// P12.1: a disk that is armed with nothing more is opened, if there is nothing to do.
func TestOpenArmed(t *testing.T) {
	for _, b := range [][]byte{full(0), head(size)} {
		d := headed(t, b)
		d.Arm(0)
		wantHome(t, "armed", mustOpen(t, d), 1, 2, 3, 4)
	}
}
