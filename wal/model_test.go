package wal_test

import (
	"bytes"
	"math/rand/v2"
	"slices"
	"testing"

	"syngraph/api"
	"syngraph/disk"
	"syngraph/wal"
)

// model is a wal by the chapter's words: a list of home sectors, and whether an answer was ErrDown.
type model struct {
	size int
	room int
	home [][]byte
	down bool
}

// newModel makes the model of a wal on a new disk.
func newModel(n, size int) *model {
	m := &model{size: size, room: min(n-1-homesOf(n), (size-16)/8)}
	for range homesOf(n) {
		m.home = append(m.home, make([]byte, size))
	}
	return m
}

// wrong tells what is wrong with changes, each thing looked for by itself.
func (m *model) wrong(l []wal.Change) api.Errno {
	for _, c := range l {
		if c.At < 0 || c.At >= len(m.home) {
			return api.ErrRange
		}
	}
	for k, c := range l {
		if len(c.Data) != m.size {
			return api.ErrForm
		}
		for _, o := range l[:k] {
			if o.At == c.At {
				return api.ErrForm
			}
		}
	}
	if len(l) > m.room {
		return api.ErrFull
	}
	return api.OK
}

// commit is what Commit should do with power for so many commands, or, of a number below nought, for all; and whether the changes may be there behind a crash, and must be.
func (m *model) commit(l []wal.Change, power int) (e api.Errno, may, must bool) {
	if len(l) == 0 {
		return api.OK, false, false
	}
	if m.down {
		return api.ErrDown, false, false
	}
	if e := m.wrong(l); e != api.OK {
		return e, false, false
	}
	if power < 0 || power >= 2*len(l)+6 {
		return api.OK, true, true
	}
	m.down = true
	return api.ErrDown, power > len(l), power > len(l)+2
}

// make makes changes in the model.
func (m *model) make(l []wal.Change) {
	for _, c := range l {
		m.home[c.At] = slices.Clone(c.Data)
	}
}

// is tells whether a wal has home as the model has it.
func (m *model) is(w *wal.Wal) bool {
	for i, want := range m.home {
		if b, e := w.Read(i); e != api.OK || !bytes.Equal(b, want) {
			return false
		}
	}
	return true
}

// hold holds a wal to all that its model tells.
func (m *model) hold(t *testing.T, w *wal.Wal) {
	t.Helper()
	if w.Home() != len(m.home) || w.Room() != m.room || w.Size() != m.size || w.Down() != m.down {
		t.Fatalf("Home %d, Room %d, Size %d, down %t, not %d, %d, %d, %t", w.Home(), w.Room(), w.Size(), w.Down(), len(m.home), m.room, m.size, m.down)
	}
	for i := -1; i <= len(m.home); i++ {
		b, e := w.Read(i)
		switch {
		case m.down:
			if e != api.ErrDown || len(b) > 0 {
				t.Fatalf("Read of home sector %d, down: %v, error %d", i, b, e)
			}
		case i < 0 || i == len(m.home):
			if e != api.ErrRange || len(b) > 0 {
				t.Fatalf("Read of home sector %d: %v, error %d", i, b, e)
			}
		case e != api.OK || !bytes.Equal(b, m.home[i]):
			t.Fatalf("Read of home sector %d: %v, error %d, not %v", i, b, e, m.home[i])
		}
	}
}

// drawn is what calls are drawn from: the rule tells a number below n.
type drawn func(n int) int

// changes draws a list of changes, now and then one that is refused.
func (next drawn) changes(m *model) []wal.Change {
	var free []int
	for i := range m.home {
		free = append(free, i)
	}
	var l []wal.Change
	for range next(min(m.room+1, len(free)) + 1) {
		k := next(len(free))
		l = append(l, wal.Change{At: free[k], Data: bytes.Repeat([]byte{byte(next(5))}, m.size)})
		free = slices.Delete(free, k, k+1)
	}
	if len(l) > 0 && next(6) == 0 {
		c := &l[next(len(l))]
		switch next(3) {
		case 0:
			c.At = []int{-1, len(m.home), 1 << 40}[next(3)]
		case 1:
			c.Data = c.Data[1:]
		case 2:
			c.At = l[next(len(l))].At
		}
	}
	return l
}

// lost draws which sectors a crash loses.
func (next drawn) lost(d *disk.Disk) []int {
	return subset(d.Cached(), func(int) bool { return next(2) == 1 })
}

// turn is a wal on its disk, and its model.
type turn struct {
	d *disk.Disk
	w *wal.Wal
	m *model
}

// commit commits drawn changes, now and then without power enough; then the disk crashes, and home is what it was, or with all changes.
func (u *turn) commit(t *testing.T, next drawn) {
	t.Helper()
	l := next.changes(u.m)
	power := -1
	if next(3) == 0 {
		power = next(2*len(l) + 8)
	}
	u.d.Arm(power)
	want, may, must := u.m.commit(l, power)
	if e := u.w.Commit(l...); e != want {
		t.Fatalf("Commit of %d changes: error %d, not %d", len(l), e, want)
	}
	u.d.Arm(-1)
	if want == api.OK {
		u.m.make(l)
	}
	u.m.hold(t, u.w)
	if u.m.down {
		u.crash(t, next, l, may, must)
	}
}

// crash crashes the disk, and now and then again and again in Open, and opens it.
func (u *turn) crash(t *testing.T, next drawn, l []wal.Change, may, must bool) {
	t.Helper()
	u.d.Crash(next.lost(u.d)...)
	u.m.down = false
	for next(2) == 0 {
		u.d.Arm(next(9))
		if _, e := wal.Open(u.d); e != api.OK && e != api.ErrDown {
			t.Fatalf("Open without power enough: error %d", e)
		}
		u.d.Crash(next.lost(u.d)...)
	}
	u.w = mustOpen(t, u.d)
	if !must && u.m.is(u.w) {
		return
	}
	if !may {
		t.Fatalf("%d changes that couldn't be named yet: home has changed", len(l))
	}
	u.m.make(l)
	u.m.hold(t, u.w)
}

// run makes drawn calls of a wal, and holds it to its model.
func run(t *testing.T, next drawn, n, size, calls int) {
	t.Helper()
	d := newDisk(t, n, size)
	u := &turn{d, mustOpen(t, d), newModel(n, size)}
	for range calls {
		switch next(8) {
		case 0:
			u.w = mustOpen(t, u.d)
		case 1:
			u.crash(t, next, nil, false, false)
		default:
			u.commit(t, next)
		}
		u.m.hold(t, u.w)
	}
}

// P12.1 to P12.3: a wal against the plain model, over many sequences of commits, reads, crashes and openings.
func TestModel(t *testing.T) {
	r := rand.New(rand.NewPCG(12, 1))
	for k := range 400 {
		run(t, r.IntN, 3+k%9, 32+8*(k%3), 40)
	}
}

// P12.1 to P12.3: the same with more sectors than a few.
func TestModelOfMany(t *testing.T) {
	r := rand.New(rand.NewPCG(12, 2))
	for range 6 {
		run(t, r.IntN, 60, 300, 100)
	}
}
