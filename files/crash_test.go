package files_test

import (
	"maps"
	"math/rand/v2"
	"slices"
	"strings"
	"testing"

	"syngraph/api"
	"syngraph/disk"
	"syngraph/files"
)

// fewCached is how many sectors may be cached for each set of them to be lost; of more, sets are drawn.
const fewCached = 6

// losses tells which sectors of those that are cached a crash may lose: each set, or, where these are many, none, all, and so many drawn ones.
func losses(r *rand.Rand, cached []int, many int) [][]int {
	var sets [][]int
	if len(cached) <= fewCached {
		for set := range 1 << len(cached) {
			sets = append(sets, subset(cached, func(k int) bool { return set>>k&1 == 1 }))
		}
		return sets
	}
	sets = append(sets, nil, cached)
	for range many {
		sets = append(sets, subset(cached, func(int) bool { return r.IntN(2) == 1 }))
	}
	return sets
}

// subset tells the numbers at those places that are chosen.
func subset(l []int, chosen func(k int) bool) []int {
	var s []int
	for k, i := range l {
		if chosen(k) {
			s = append(s, i)
		}
	}
	return s
}

// opened tells the files of a disk by a copy of it, so that the disk stays as it is.
func opened(t *testing.T, d *disk.Disk) texts {
	t.Helper()
	return told(mustOpen(t, d.Copy()))
}

// crashes goes through crashes of a commit and of what opens it behind them.
type crashes struct {
	r      *rand.Rand
	many   int
	before int
	behind int
}

// newCrashes begins to go through crashes, the drawn ones from one rule.
func newCrashes(many int) *crashes {
	return &crashes{r: rand.New(rand.NewPCG(13, uint64(many))), many: many}
}

// ofCommit crashes a disk at each command of a commit, for each set that may be lost, and holds it to having the files of ahead of it or those of behind it.
func (c *crashes) ofCommit(t *testing.T, d *disk.Disk, l []files.Edit, again int) {
	t.Helper()
	x := opened(t, d)
	y := x.with(l...)
	for arm := 0; ; arm++ {
		p := d.Copy()
		s := mustOpen(t, p)
		p.Arm(arm)
		if e := s.Commit(l...); e == api.OK {
			c.ofDone(t, p, y)
			return
		} else if e != api.ErrDown {
			t.Fatalf("%d edits, armed with %d: error %d", len(l), arm, e)
		}
		for _, lost := range losses(c.r, p.Cached(), c.many) {
			q := p.Copy()
			q.Crash(lost...)
			z := opened(t, q)
			switch {
			case maps.Equal(z, x):
				c.before++
			case maps.Equal(z, y):
				c.behind++
			default:
				t.Fatalf("%d edits, armed with %d, %v lost: files %q, not those ahead nor those behind", len(l), arm, lost, z)
			}
			c.ofOpen(t, q, z, again)
		}
	}
}

// ofDone crashes a disk of which a commit was OK: all of it should be there, whatever a crash may lose.
func (c *crashes) ofDone(t *testing.T, d *disk.Disk, want texts) {
	t.Helper()
	for _, lost := range [][]int{nil, d.Cached(), allSectors(d)} {
		q := d.Copy()
		q.Crash(lost...)
		if z := opened(t, q); !maps.Equal(z, want) {
			t.Fatalf("a commit that was OK isn't there behind a crash: %q", z)
		}
	}
}

// allSectors tells the numbers of all sectors.
func allSectors(d *disk.Disk) []int {
	var l []int
	for i := range d.Sectors() {
		l = append(l, i)
	}
	return l
}

// ofOpen crashes a disk at each command of Open, for each set that may be lost, and again at those of the next Open, so many times; the files should be the same each time.
func (c *crashes) ofOpen(t *testing.T, d *disk.Disk, want texts, again int) {
	t.Helper()
	if z := opened(t, d); !maps.Equal(z, want) {
		t.Fatalf("%d crashes on: files %q, not %q", again, z, want)
	}
	if again == 0 {
		return
	}
	for arm := 0; ; arm++ {
		p := d.Copy()
		p.Arm(arm)
		if s, e := files.Open(p); e == api.OK {
			wantFiles(t, "opened", s, want)
			return
		} else if e != api.ErrDown || s != nil {
			t.Fatalf("Open, armed with %d: error %d", arm, e)
		}
		for _, lost := range losses(c.r, p.Cached(), c.many) {
			q := p.Copy()
			q.Crash(lost...)
			c.ofOpen(t, q, want, again-1)
		}
	}
}

// someCommits are lists of edits that a store of someFiles may make.
func someCommits() [][]files.Edit {
	return [][]files.Edit{
		{put("z", "\x00\xff\x01")},
		{put("n", "new")},
		{gone("z")},
		{put("z", strings.Repeat("long", 60)), gone("a.b")},
		{put("a-b/.c", "THREE"), put("n/m", "new"), gone("a/b"), put("a/c/d", "")},
		{gone("a/b"), gone("a/c/d"), put("a", "a file now")},
		{gone("z"), put("z/z", strings.Repeat("deep", 40))},
		{gone("a/b"), gone("a/c/d"), gone("a.b"), gone("a-b/.c"), gone("z"), gone("usr/x1_2")},
	}
}

// P13.4: commits of one edit and of several: all or none, whatever is lost, and the same behind crashes in Open.
func TestCrashes(t *testing.T) {
	d, _ := withFiles(t, someFiles())
	for _, l := range someCommits() {
		c := newCrashes(8)
		c.ofCommit(t, d, l, 1)
		if c.before < 5 || c.behind < 5 {
			t.Errorf("%d edits: %d crashes with the files ahead, %d with those behind", len(l), c.before, c.behind)
		}
	}
}

// P13.4: the first commit of a new disk, of which there are no files yet.
func TestCrashesOfFirst(t *testing.T) {
	d := newDisk(t, 9, size)
	newCrashes(8).ofCommit(t, d, []files.Edit{put("a", "one")}, 2)
	newCrashes(8).ofCommit(t, d, []files.Edit{put("a/b", strings.Repeat("one", 9)), put("c", strings.Repeat("two", 15))}, 1)
}

// P13.4: crashes in Open again and again.
func TestCrashesAgain(t *testing.T) {
	d := newDisk(t, 5, size)
	mustCommit(t, mustOpen(t, d), put("a", "b"))
	newCrashes(2).ofCommit(t, d, []files.Edit{put("a", "c")}, 3)
	newCrashes(2).ofCommit(t, d, []files.Edit{put("a", strings.Repeat("c", 60))}, 2)
}

// P13.4: of many sectors, with drawn sets.
func TestCrashesOfMany(t *testing.T) {
	d := newDisk(t, 60, 256)
	s := mustOpen(t, d)
	mustCommit(t, s, numbered(200).edits()...)
	var l []files.Edit
	for k, c := range numbered(200).edits() {
		switch k % 3 {
		case 0:
			l = append(l, put(c.Name, "more than it was"))
		case 1:
			l = append(l, gone(c.Name))
		}
	}
	newCrashes(3).ofCommit(t, d, l, 0)
}

// P13.4: a commit behind one that a crash ended, whether that came through or not.
func TestCrashThenCommit(t *testing.T) {
	first := []files.Edit{put("z", "first"), gone("a/b"), put("n", strings.Repeat("n", 70))}
	for arm := range 16 {
		for _, lose := range []bool{false, true} {
			d, s := withFiles(t, someFiles())
			d.Arm(arm)
			if s.Commit(first...) == api.OK {
				continue
			}
			d.Crash(subset(d.Cached(), func(int) bool { return lose })...)
			mustOpen(t, d)
			newCrashes(2).ofCommit(t, d, []files.Edit{put("z", "second"), put("m", "")}, 0)
		}
	}
}

// P13.4: all commits that were OK are there, one behind the other, with a crash behind each.
func TestCrashBehindEach(t *testing.T) {
	d, s := withFiles(t, someFiles())
	x := someFiles()
	for k, name := range []string{"n", "m/m", "l/l/l", "z", "usr/y", "k"} {
		l := []files.Edit{put(name, strings.Repeat(name, k+1))}
		x = committed(t, "ahead of a crash", d, s, x, l...)
		if c := d.Cached(); len(c) > 0 {
			t.Errorf("%v are cached behind a commit", c)
		}
		d.Crash(allSectors(d)...)
		s = mustOpen(t, d)
		wantFiles(t, "behind a crash", s, x)
	}
}

// P13.4: a crash when nothing is being done changes nothing, and what was opened again is the same again.
func TestCrashOfNothing(t *testing.T) {
	x := someFiles()
	d, _ := withFiles(t, x)
	for range 3 {
		before := d.Copy()
		d.Crash(allSectors(d)...)
		wantFiles(t, "a crash of nothing", mustOpen(t, d), x)
		wantAlike(t, "a crash of nothing", d, before)
	}
}

// P13.3 and P13.4: a commit whose answer was ErrDown may stand on the disk or not, but never with what others left: it is one of two images.
func TestDownStands(t *testing.T) {
	x := someFiles()
	l := []files.Edit{put("z", strings.Repeat("z", 90)), gone("a/b")}
	var seen []int
	for arm := range 16 {
		d, s := withFiles(t, x)
		d.Arm(arm)
		if s.Commit(l...) == api.OK {
			break
		}
		d.Crash()
		o := mustOpen(t, d)
		y := told(o)
		wantStands(t, "behind ErrDown", d, y)
		if maps.Equal(y, x.with(l...)) {
			seen = append(seen, arm)
		}
	}
	if len(seen) == 0 || !slices.IsSorted(seen) || seen[0] == 0 {
		t.Errorf("with power for %v commands the commit stands", seen)
	}
}
