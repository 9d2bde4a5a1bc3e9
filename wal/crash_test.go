package wal_test

import (
	"bytes"
	"math/rand/v2"
	"slices"
	"testing"

	"syngraph/api"
	"syngraph/disk"
	"syngraph/wal"
)

// fewCached is how many sectors may be cached for each set of them to be lost; of more, sets are drawn.
const fewCached = 6

// losses tells which sectors of those that are cached a crash may lose: each set, or, where these are many, none, all, and so many drawn ones.
func losses(r *rand.Rand, cached []int, many int) [][]int {
	var sets [][]int
	if len(cached) <= fewCached {
		for set := range 1 << len(cached) {
			sets = append(sets, subset(cached, func(k int) bool { return set>>k&1 == 1 }))
		}
		return sets
	}
	sets = append(sets, nil, cached)
	for range many {
		sets = append(sets, subset(cached, func(int) bool { return r.IntN(2) == 1 }))
	}
	return sets
}

// subset tells the numbers at those places that are chosen.
func subset(l []int, chosen func(k int) bool) []int {
	var s []int
	for k, i := range l {
		if chosen(k) {
			s = append(s, i)
		}
	}
	return s
}

// home tells all home sectors of a wal, one behind the other.
func home(t *testing.T, w *wal.Wal) []byte {
	t.Helper()
	var all []byte
	for i := range w.Home() {
		b, e := w.Read(i)
		if e != api.OK {
			t.Fatalf("Read of home sector %d: error %d", i, e)
		}
		all = append(all, b...)
	}
	return all
}

// opened tells home of a disk by a copy of it, so that the disk stays as it is.
func opened(t *testing.T, d *disk.Disk) []byte {
	t.Helper()
	return home(t, mustOpen(t, d.Copy()))
}

// after tells what home has behind some changes.
func after(before []byte, size int, l []wal.Change) []byte {
	b := slices.Clone(before)
	for _, c := range l {
		copy(b[size*c.At:], c.Data)
	}
	return b
}

// crashes goes through crashes of a commit and of what opens it behind them.
type crashes struct {
	r    *rand.Rand
	many int
	seen int
}

// ofCommit crashes a disk at each command of a commit, for each set that may be lost, and holds it to having all of the changes or none: all from that Write of the head on that names them, if it isn't lost.
func (c *crashes) ofCommit(t *testing.T, d *disk.Disk, l []wal.Change, again int) {
	t.Helper()
	before := opened(t, d)
	all := after(before, d.Size(), l)
	for arm := range 2*len(l) + 6 {
		p := d.Copy()
		w := mustOpen(t, p)
		p.Arm(arm)
		if e := w.Commit(l...); e != api.ErrDown {
			t.Fatalf("%d changes, armed with %d: error %d", len(l), arm, e)
		}
		for _, lost := range losses(c.r, p.Cached(), c.many) {
			q := p.Copy()
			q.Crash(lost...)
			want := before
			if arm > len(l)+2 || arm > len(l) && !slices.Contains(lost, 0) {
				want = all
			}
			if !bytes.Equal(opened(t, q), want) {
				t.Fatalf("%d changes, armed with %d, %v lost: home isn't as it was, nor with all of them, or the head says otherwise", len(l), arm, lost)
			}
			c.seen++
			c.ofOpen(t, q, want, again)
		}
	}
}

// ofOpen crashes a disk at each command of Open, for each set that may be lost, and again at those of the next Open, so many times; home should have the same each time.
func (c *crashes) ofOpen(t *testing.T, d *disk.Disk, want []byte, again int) {
	t.Helper()
	if got := opened(t, d); !bytes.Equal(got, want) {
		t.Fatalf("home isn't the same behind %d more crashes", again)
	}
	if again == 0 {
		return
	}
	for arm := 0; ; arm++ {
		p := d.Copy()
		p.Arm(arm)
		if w, e := wal.Open(p); e == api.OK {
			if got := home(t, w); !bytes.Equal(got, want) {
				t.Fatalf("home isn't the same, opened")
			}
			return
		} else if e != api.ErrDown || w != nil {
			t.Fatalf("Open, armed with %d: error %d", arm, e)
		}
		for _, lost := range losses(c.r, p.Cached(), c.many) {
			q := p.Copy()
			q.Crash(lost...)
			c.seen++
			c.ofOpen(t, q, want, again-1)
		}
	}
}

// newCrashes begins to go through crashes, the drawn ones from one rule.
func newCrashes(many int) *crashes {
	return &crashes{r: rand.New(rand.NewPCG(12, uint64(many))), many: many}
}

// P12.3: commits of one change, of several, and of as many as there is room for: all or none, whatever is lost, and the same behind crashes in Open, and in the Open behind these.
func TestCrashes(t *testing.T) {
	d, _ := withChanges(t)
	for _, l := range someChanges() {
		c := newCrashes(8)
		again := 2
		if len(l) > 2 {
			again = 1
		}
		c.ofCommit(t, d, l, again)
		if c.seen < 100 {
			t.Errorf("%d changes: only %d crashes", len(l), c.seen)
		}
	}
}

// P12.3: crashes in Open again and again.
func TestCrashesAgain(t *testing.T) {
	d, _ := withChanges(t)
	newCrashes(2).ofCommit(t, d, []wal.Change{change(2, 9)}, 3)
	newCrashes(2).ofCommit(t, newDisk(t, 3, size), []wal.Change{change(0, 9)}, 3)
}

// P12.3: of many changes, with drawn sets.
func TestCrashesOfMany(t *testing.T) {
	d := newDisk(t, 26, 200)
	w := mustOpen(t, d)
	var l []wal.Change
	for k := range w.Room() {
		l = append(l, wal.Change{At: k * 5 % 13, Data: bytes.Repeat([]byte{byte(k + 1)}, 200)})
	}
	newCrashes(3).ofCommit(t, d, l, 1)
	mustCommit(t, w, l...)
	for k := range l {
		l[k].Data = bytes.Repeat([]byte{byte(k + 101)}, 200)
	}
	newCrashes(3).ofCommit(t, d, l[:7], 1)
}

// P12.3: a commit behind one that a crash ended, whether that came through or not; its journal is written over.
func TestCrashThenCommit(t *testing.T) {
	first := []wal.Change{change(0, 11), change(1, 12), change(2, 13)}
	second := []wal.Change{change(2, 21), change(3, 22)}
	for arm := range 2*len(first) + 6 {
		for _, lose := range []bool{false, true} {
			d, w := withChanges(t)
			d.Arm(arm)
			if e := w.Commit(first...); e != api.ErrDown {
				t.Fatalf("armed with %d: error %d", arm, e)
			}
			d.Crash(subset(d.Cached(), func(int) bool { return lose })...)
			mustOpen(t, d)
			newCrashes(2).ofCommit(t, d, second, 0)
		}
	}
}

// P12.3: what was OK stands on the disk without a flush of somebody else: nothing of it can be lost.
func TestNothingCachedBehind(t *testing.T) {
	d := newDisk(t, 9, size)
	w := mustOpen(t, d)
	for _, l := range someChanges() {
		want := after(home(t, w), size, l)
		mustCommit(t, w, l...)
		if c := d.Cached(); len(c) > 0 {
			t.Errorf("%v are cached behind a commit", c)
		}
		p := d.Copy()
		p.Crash(0, 1, 2, 3, 4, 5, 6, 7, 8)
		if !bytes.Equal(opened(t, p), want) {
			t.Errorf("a commit that was OK isn't there behind a crash")
		}
	}
	d = headed(t, head(size, 3, 2))
	mustOpen(t, d)
	if c := d.Cached(); len(c) > 0 {
		t.Errorf("%v are cached behind Open", c)
	}
}

// P12.3: opened again a disk has the same, and Open does no command of a disk that was opened.
func TestOpenTwice(t *testing.T) {
	for arm := range 12 {
		d, w := withChanges(t)
		d.Arm(arm)
		w.Commit(change(3, 33), change(0, 30))
		d.Crash()
		first := home(t, mustOpen(t, d))
		before := d.Copy()
		for range 3 {
			if !bytes.Equal(home(t, mustOpen(t, d)), first) {
				t.Errorf("armed with %d: opened again it isn't the same", arm)
			}
			wantAlike(t, "opened again", d, before)
		}
	}
}

// P12.3: a crash when nothing is being done changes nothing.
func TestCrashOfNothing(t *testing.T) {
	d, _ := withChanges(t)
	for range 3 {
		d.Crash(0, 1, 2, 3, 4, 5, 6, 7, 8)
		wantHome(t, "a crash of nothing", mustOpen(t, d), 1, 2, 3, 4)
	}
}
