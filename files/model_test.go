package files_test

import (
	"bytes"
	"maps"
	"math/rand/v2"
	"strings"
	"testing"

	"syngraph/api"
	"syngraph/disk"
	"syngraph/files"
)

// model is a store by the chapter's words: a list of files, and whether an answer was ErrDown.
type model struct {
	sectors int
	size    int
	x       texts
	home    []byte
	down    bool
}

// newModel makes the model of a store on a new disk.
func newModel(n, size int) *model {
	return &model{sectors: n, size: size, x: texts{}, home: make([]byte, homesOf(n)*size)}
}

// room tells how many home sectors may be changed at once.
func (m *model) room() int {
	return min(m.sectors-1-homesOf(m.sectors), (m.size-16)/8)
}

// aName tells whether a text is a name, by what has to be known of those that are drawn.
func aName(s string) bool {
	return s != "" && len(s) <= 64 && s == strings.ToLower(s) && !strings.HasSuffix(s, "/") && s != ".."
}

// wrongEdits tells what is wrong with edits, one by one.
func (m *model) wrongEdits(l []files.Edit) api.Errno {
	for k, c := range l {
		if !aName(c.Name) {
			return api.ErrName
		}
		for _, o := range l[:k] {
			if o.Name == c.Name {
				return api.ErrTwice
			}
		}
		if _, is := m.x[c.Name]; c.Gone && !is {
			return api.ErrNone
		}
	}
	return api.OK
}

// wrongFiles tells what is wrong with the files that there would be.
func (m *model) wrongFiles(x texts) api.Errno {
	if len(x) > 1024 {
		return api.ErrMany
	}
	for a := range x {
		for b := range x {
			if strings.HasPrefix(b, a+"/") {
				return api.ErrClash
			}
		}
	}
	if 8+len(x.image()) > len(m.home) {
		return api.ErrFull
	}
	return api.OK
}

// changed tells how many home sectors would be others.
func (m *model) changed(home []byte) int {
	n := 0
	for at := 0; at < len(home); at += m.size {
		if !bytes.Equal(home[at:at+m.size], m.home[at:at+m.size]) {
			n++
		}
	}
	return n
}

// commit is what Commit should do with power for so many commands, or, of a number below nought, for all; and whether the edits may be there behind a crash, and must be.
func (m *model) commit(l []files.Edit, power int) (e api.Errno, may, must bool) {
	if len(l) == 0 {
		return api.OK, false, false
	}
	if m.down {
		return api.ErrDown, false, false
	}
	if e := m.wrongEdits(l); e != api.OK {
		return e, false, false
	}
	x := m.x.with(l...)
	if e := m.wrongFiles(x); e != api.OK {
		return e, false, false
	}
	n := m.changed(standing(x.image(), len(m.home)))
	switch {
	case n > m.room():
		return api.ErrFull, false, false
	case n == 0 || power < 0 || power >= 2*n+6:
		return api.OK, true, true
	}
	m.down = true
	return api.ErrDown, power > n, power > n+2
}

// make makes edits in the model.
func (m *model) make(l []files.Edit) {
	if len(l) > 0 {
		m.x = m.x.with(l...)
		m.home = standing(m.x.image(), len(m.home))
	}
}

// someNames are what names are drawn from, some of them none.
var someNames = []string{"a", "a/b", "a/c", "a/c/d", "a/c/e", "a.b", "a-b/c", "b", "b/b", "b/b/b", "c", "d/e", "f", "", "A", "a/", "..", strings.Repeat("g", 64), strings.Repeat("g", 65)}

// hold holds a store to all that its model tells.
func (m *model) hold(t *testing.T, s *files.Store) {
	t.Helper()
	wantFiles(t, "model", s, m.x)
	wantDown(t, "model", s, m.down)
	if s.Quota() != len(m.home)-8 {
		t.Fatalf("Quota %d, not %d", s.Quota(), len(m.home)-8)
	}
	for _, name := range someNames {
		if _, is := m.x[name]; !is {
			wantNoRead(t, "model", s, name)
		}
		wantList(t, s, name, m.x.list(name)...)
	}
	if t.Failed() {
		t.FailNow()
	}
}

// drawn is what calls are drawn from: the rule tells a number below n.
type drawn func(n int) int

// edits draws a list of edits, most of which may be made, of files that don't clash with most others.
func (next drawn) edits(m *model) []files.Edit {
	var l []files.Edit
	used := map[string]int{}
	for range next(5) {
		name := someNames[next(13)]
		if next(30) == 0 {
			name = someNames[next(len(someNames))]
		}
		if used[name]++; used[name] > 1 && next(8) > 0 {
			continue
		}
		_, is := m.x[name]
		c := put(name, strings.Repeat(string(rune('0'+next(4))), next(m.size)))
		c.Gone = is && next(2) == 0 || next(40) == 0
		l = append(l, c)
	}
	return next.withoutClashes(m, l)
}

// withoutClashes drops, most times, what would stand in the way of an edit's file.
func (next drawn) withoutClashes(m *model, l []files.Edit) []files.Edit {
	if next(4) == 0 {
		return l
	}
	x := m.x.with(l...)
	var kept []files.Edit
	for _, c := range l {
		if !c.Gone && len(x.list(c.Name)) > 0 {
			continue
		}
		kept = append(kept, c)
	}
	for _, name := range m.x.names() {
		if len(x.list(name)) > 0 && !hasEdit(kept, name) {
			kept = append(kept, gone(name))
		}
	}
	return kept
}

// hasEdit tells whether there is an edit of a file.
func hasEdit(l []files.Edit, name string) bool {
	for _, c := range l {
		if c.Name == name {
			return true
		}
	}
	return false
}

// lost draws which sectors a crash loses.
func (next drawn) lost(d *disk.Disk) []int {
	return subset(d.Cached(), func(int) bool { return next(2) == 1 })
}

// turn is a store on its disk, and its model.
type turn struct {
	d *disk.Disk
	s *files.Store
	m *model
	// How many commits were OK, how many were refused, and of how many the power went.
	ok, refused, downs int
}

// commit commits drawn edits, now and then without power enough; then the disk crashes, and the files are what they were, or with all edits.
func (u *turn) commit(t *testing.T, next drawn) {
	t.Helper()
	l := next.edits(u.m)
	power := -1
	if next(3) == 0 {
		power = next(18)
	}
	u.d.Arm(power)
	want, may, must := u.m.commit(l, power)
	if e := u.s.Commit(l...); e != want {
		t.Fatalf("Commit of %v to %v: error %d, not %d", l, u.m.x, e, want)
	}
	u.d.Arm(-1)
	switch want {
	case api.OK:
		u.m.make(l)
		u.ok++
	case api.ErrDown:
		u.downs++
	default:
		u.refused++
	}
	u.m.hold(t, u.s)
	if u.m.down {
		if next(4) == 0 {
			u.again(t, next)
		}
		u.crash(t, next, l, may, must)
	}
}

// again commits once more what is answered without a look at the disk.
func (u *turn) again(t *testing.T, next drawn) {
	t.Helper()
	l := next.edits(u.m)
	want, _, _ := u.m.commit(l, -1)
	if e := u.s.Commit(l...); e != want {
		t.Fatalf("Commit of %v, down: error %d, not %d", l, e, want)
	}
	u.m.hold(t, u.s)
}

// crash crashes the disk, and now and then again and again in Open, and opens it.
func (u *turn) crash(t *testing.T, next drawn, l []files.Edit, may, must bool) {
	t.Helper()
	u.d.Crash(next.lost(u.d)...)
	u.m.down = false
	for next(2) == 0 {
		u.d.Arm(next(9))
		if _, e := files.Open(u.d); e != api.OK && e != api.ErrDown {
			t.Fatalf("Open without power enough: error %d", e)
		}
		u.d.Crash(next.lost(u.d)...)
	}
	u.s = mustOpen(t, u.d)
	if !must && maps.Equal(told(u.s), u.m.x) {
		return
	}
	if !may {
		t.Fatalf("edits %v that couldn't be there yet: the files have changed", l)
	}
	u.m.make(l)
	u.m.hold(t, u.s)
}

// run makes drawn calls of a store, and holds it to its model.
func run(t *testing.T, next drawn, n, size, calls int) *turn {
	t.Helper()
	d := newDisk(t, n, size)
	u := &turn{d: d, s: mustOpen(t, d), m: newModel(n, size)}
	for range calls {
		switch next(8) {
		case 0:
			u.s = mustOpen(t, u.d)
		case 1:
			u.crash(t, next, nil, false, false)
		default:
			u.commit(t, next)
		}
		u.m.hold(t, u.s)
	}
	return u
}

// P13.1 to P13.4: a store against the plain model, over many sequences of commits, reads, crashes and openings.
func TestModel(t *testing.T) {
	r := rand.New(rand.NewPCG(13, 1))
	ok, refused, downs := 0, 0, 0
	for k := range 150 {
		u := run(t, r.IntN, 3+k%19, 32+8*(k%7), 30)
		ok, refused, downs = ok+u.ok, refused+u.refused, downs+u.downs
	}
	if ok < 500 || refused < 500 || downs < 200 {
		t.Errorf("%d commits were OK, %d were refused, of %d the power went", ok, refused, downs)
	}
}

// P13.1 to P13.4: the same with more sectors than a few.
func TestModelOfMany(t *testing.T) {
	r := rand.New(rand.NewPCG(13, 2))
	for range 6 {
		run(t, r.IntN, 80, 120, 60)
	}
}
