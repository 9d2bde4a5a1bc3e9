package files_test

import (
	"bytes"
	"fmt"
	"math/rand/v2"
	"slices"
	"strings"
	"testing"

	"syngraph/api"
	"syngraph/disk"
	"syngraph/files"
)

// refused commits what is no commit, or does nothing, holds it to its answer, and store and disk to being as they were, with power for nothing.
func refused(t *testing.T, what string, d *disk.Disk, s *files.Store, want api.Errno, l ...files.Edit) {
	t.Helper()
	before, down, x := d.Copy(), s.Down(), told(s)
	d.Arm(0)
	if e := s.Commit(l...); e != want {
		t.Errorf("%s: error %d, not %d", what, e, want)
	}
	d.Arm(-1)
	wantAlike(t, what, d, before)
	wantDown(t, what, s, down)
	wantFiles(t, what, s, x)
}

// committed commits edits, and holds store and disk to what they should have then.
func committed(t *testing.T, what string, d *disk.Disk, s *files.Store, x texts, l ...files.Edit) texts {
	t.Helper()
	x = x.with(l...)
	if e := s.Commit(l...); e != api.OK {
		t.Fatalf("%s: error %d", what, e)
	}
	wantFiles(t, what, s, x)
	wantStands(t, what, d, x)
	wantFiles(t, what+", opened", mustOpen(t, d), x)
	return x
}

// P13.3: one commit behind the other: such as add, change and drop, one file or several.
func TestCommits(t *testing.T) {
	d, s := withFiles(t, nil)
	x := committed(t, "one", d, s, nil, put("a/b", "one"))
	x = committed(t, "several", d, s, x, put("z", "last"), put("a/c/d", "deep"), put("a-", ""))
	x = committed(t, "changed", d, s, x, put("a/b", "longer than it was"))
	x = committed(t, "changed to nothing", d, s, x, put("z", ""))
	x = committed(t, "dropped", d, s, x, gone("a-"))
	x = committed(t, "added, changed and dropped", d, s, x, gone("a/b"), put("new", "file"), put("a/c/d", "other"), put("b/b", "b"))
	x = committed(t, "the same again", d, s, x, x.edits()...)
	x = committed(t, "all dropped but one", d, s, x, gone("new"), gone("z"), gone("b/b"))
	x = committed(t, "all dropped", d, s, x, gone("a/c/d"))
	committed(t, "added once more", d, s, x, put("a/b", "one"))
}

// P13.3: data that goes with an edit which is Gone is nothing, and data that is nil is none.
func TestCommitData(t *testing.T) {
	d, s := withFiles(t, texts{"a": "x", "b": "y"})
	mustCommit(t, s, files.Edit{Name: "a", Data: []byte("left"), Gone: true}, files.Edit{Name: "b"}, files.Edit{Name: "c", Data: []byte{}})
	x := texts{"b": "", "c": ""}
	wantFiles(t, "no data", s, x)
	wantStands(t, "no data", d, x)
	all := make([]byte, 256)
	for k := range all {
		all[k] = byte(k)
	}
	committed(t, "each byte", d, s, x, put("c", string(all)))
}

// P13.3: what is dropped may make room for a directory of its name, and what lay in a directory for a file, both at once, in any order.
func TestCommitOfDirectories(t *testing.T) {
	d, s := withFiles(t, texts{"a": "file"})
	x := texts{"a": "file"}
	x = committed(t, "a directory", d, s, x, gone("a"), put("a/b", "in it"))
	x = committed(t, "a deeper one", d, s, x, put("a/b/c/d", "deep"), gone("a/b"))
	x = committed(t, "a file again", d, s, x, put("a", "file"), gone("a/b/c/d"))
	x = committed(t, "another", d, s, x, put("b/c", "1"), put("b/d/e", "2"))
	x = committed(t, "of two", d, s, x, gone("b/c"), put("b", "3"), gone("b/d/e"))
	committed(t, "crosswise", d, s, x, gone("a"), gone("b"), put("a/b", "4"), put("b/a", "5"))
}

// P13.3: of no edits nothing is done.
func TestCommitOfNothing(t *testing.T) {
	d, s := withFiles(t, someFiles())
	refused(t, "nothing", d, s, api.OK)
	refused(t, "nil", d, s, api.OK, []files.Edit(nil)...)
	refused(t, "empty", d, s, api.OK, []files.Edit{}...)
}

// P13.3: edits that leave all as it is are made without a command of the disk.
func TestCommitOfTheSame(t *testing.T) {
	x := someFiles()
	d, s := withFiles(t, x)
	refused(t, "all the same", d, s, api.OK, x.edits()...)
	refused(t, "one the same", d, s, api.OK, put("z", x["z"]))
}

// P13.3: ErrName, of each kind of text that is no name, by itself, at each place, and of such as are Gone.
func TestCommitErrName(t *testing.T) {
	d, s := withFiles(t, someFiles())
	for _, name := range []string{"", "/", "a/", "/a", "a//b", ".", "..", "a/..", "./a", "A", "a b", "a\x00", "\xff", "é", strings.Repeat("a", 65)} {
		refused(t, "no name", d, s, api.ErrName, put(name, "x"))
		refused(t, "no name, gone", d, s, api.ErrName, gone(name))
		refused(t, "no name, twice", d, s, api.ErrName, put(name, "x"), put(name, "x"))
		refused(t, "no name, too much", d, s, api.ErrName, put(name, strings.Repeat("x", 700)))
		for place := range 3 {
			l := []files.Edit{put("n", "1"), gone("z"), put("a/b", "2")}
			l[place].Name = name
			refused(t, "no name, among others", d, s, api.ErrName, l...)
		}
	}
}

// P13.3: ErrTwice, if an earlier edit has the name, whatever each of them does.
func TestCommitErrTwice(t *testing.T) {
	d, s := withFiles(t, someFiles())
	for _, name := range []string{"z", "a/b"} {
		for _, a := range []files.Edit{put(name, "x"), put(name, "y"), gone(name)} {
			for _, b := range []files.Edit{put(name, "x"), put(name, ""), gone(name)} {
				refused(t, "twice", d, s, api.ErrTwice, a, b)
				refused(t, "twice, apart", d, s, api.ErrTwice, put("m", ""), a, put("n", ""), b, gone("a.b"))
			}
		}
	}
	refused(t, "new, and twice", d, s, api.ErrTwice, put("n", ""), put("n", ""))
	refused(t, "new, and gone", d, s, api.ErrTwice, put("n", ""), gone("n"))
	refused(t, "often", d, s, api.ErrTwice, slices.Repeat([]files.Edit{put("n", "")}, 2000)...)
}

// P13.3: ErrNone, if what should be gone is no file: of names that are none's, of directories, and of files that the same commit makes.
func TestCommitErrNone(t *testing.T) {
	d, s := withFiles(t, someFiles())
	for _, name := range []string{"n", "a", "a/c", "usr", "a/b/c", "a/c/d/e", "a.", "a.bc", strings.Repeat("a", 64)} {
		refused(t, "no file", d, s, api.ErrNone, gone(name))
		refused(t, "no file, behind others", d, s, api.ErrNone, put("m", ""), gone("z"), gone(name))
		refused(t, "no file, ahead of others", d, s, api.ErrNone, gone(name), put("m", ""), gone("z"))
	}
	mustCommit(t, s, gone("z"))
	refused(t, "no file any more", d, s, api.ErrNone, gone("z"))
	refused(t, "no file in a new directory", d, s, api.ErrNone, put("z/z", ""), gone("z"))
}

// P13.3: edits are looked at one by one: the first one that may not be made says the error, and of itself the name, whether it is twice, and whether there is such a file.
func TestCommitErrorsOfEdits(t *testing.T) {
	d, s := withFiles(t, someFiles())
	name, none := put("A", ""), gone("none")
	one := put("n", "")
	refused(t, "none, then no name", d, s, api.ErrNone, none, name)
	refused(t, "no name, then none", d, s, api.ErrName, name, none)
	refused(t, "twice, then no name", d, s, api.ErrTwice, one, one, name)
	refused(t, "no name, then twice", d, s, api.ErrName, one, name, one)
	refused(t, "twice, then none", d, s, api.ErrTwice, one, one, none)
	refused(t, "none, then twice", d, s, api.ErrNone, one, none, one)
	refused(t, "none, twice", d, s, api.ErrNone, none, none)
	refused(t, "twice and none", d, s, api.ErrTwice, put("none", ""), none)
	refused(t, "no name, and none", d, s, api.ErrName, gone("A"))
	refused(t, "no name, twice, and none", d, s, api.ErrName, put("m", ""), gone(""), gone(""))
}

// P13.3: ErrClash, of the files that there would be: with those that are there, and of edits among themselves.
func TestCommitErrClash(t *testing.T) {
	d, s := withFiles(t, someFiles())
	for _, l := range [][]files.Edit{
		{put("a", "")}, {put("a/b/c", "")}, {put("a/b/c/d/e", "")}, {put("a/c", "")}, {put("usr", "")}, {put("z/z", "")}, {put("a.b/c", "")},
		{put("n", ""), put("n/m", "")}, {put("n/m", ""), put("n", "")}, {put("n/m/l/k", ""), put("n", "")}, {put("n", ""), put("n.", ""), put("n/a", "")},
		{gone("a/b"), put("a", "")}, {gone("a/c/d"), put("a/c/d/e", ""), put("a/b/x", "")}, {gone("z"), put("z/a", ""), put("z/a/b", "")},
	} {
		refused(t, "a clash", d, s, api.ErrClash, l...)
	}
}

// P13.3: as many files as there may be; of one more ErrMany, but not if another one is gone.
func TestCommitErrMany(t *testing.T) {
	d := newDisk(t, 200, 512)
	s := mustOpen(t, d)
	x := committed(t, "as many", d, s, nil, numbered(1024).edits()...)
	refused(t, "one more", d, s, api.ErrMany, put("m", ""))
	refused(t, "two more, and one gone", d, s, api.ErrMany, put("m", ""), put("l", ""), gone("n/5"))
	x = committed(t, "one more, and one gone", d, s, x, put("m", ""), gone("n/5"))
	x = committed(t, "one gone, and one more", d, s, x, gone("n/7"), put("n/5", "back"))
	committed(t, "others", d, s, x, put("m", "changed"), put("n/5", ""))
	d = newDisk(t, 200, 512)
	s = mustOpen(t, d)
	refused(t, "too many at once", d, s, api.ErrMany, numbered(1025).edits()...)
	refused(t, "far too many at once", d, s, api.ErrMany, numbered(5000).edits()...)
}

// P13.3: of several errors: those of the edits, ErrMany, ErrClash, ErrFull.
func TestCommitErrorsInOrder(t *testing.T) {
	d := newDisk(t, 200, 512)
	s := mustOpen(t, d)
	many := numbered(1025).edits()
	clash := []files.Edit{put("a", ""), put("a/b", "")}
	full := []files.Edit{put("f", strings.Repeat("x", s.Quota()))}
	all := slices.Concat(many, clash, full)
	refused(t, "a name behind all", d, s, api.ErrName, append(all, put("A", ""))...)
	refused(t, "twice behind all", d, s, api.ErrTwice, append(all, put("n/5", ""))...)
	refused(t, "none behind all", d, s, api.ErrNone, append(all, gone("none"))...)
	refused(t, "many, a clash, full", d, s, api.ErrMany, all...)
	refused(t, "many, full", d, s, api.ErrMany, append(many, full...)...)
	refused(t, "a clash, full", d, s, api.ErrClash, append(clash, full...)...)
	refused(t, "full", d, s, api.ErrFull, full...)
}

// P13.3: as many bytes as Quota are there; of one more ErrFull, but not if others are gone.
func TestCommitErrFull(t *testing.T) {
	for _, x := range [][2]int{{3, 32}, {3, 33}, {5, 32}, {5, 33}, {9, 100}, {13, size}} {
		d := newDisk(t, x[0], x[1])
		s := mustOpen(t, d)
		over := s.Quota() - 8 - 4 - 1 - 4
		most := put("a", strings.Repeat("x", over))
		for n := over + 1; n < over+9; n++ {
			refused(t, "more", d, s, api.ErrFull, put("a", strings.Repeat("x", n)))
		}
		refused(t, "one file more", d, s, api.ErrFull, most, put("b", ""))
		refused(t, "a longer name", d, s, api.ErrFull, put("ab", string(most.Data)))
		y := committed(t, "as many bytes as may be", d, s, nil, most)
		if s.Used() != s.Quota() {
			t.Errorf("Used %d, not %d", s.Used(), s.Quota())
		}
		refused(t, "one file more than may be", d, s, api.ErrFull, put("b", ""))
		y = committed(t, "one byte less", d, s, y, put("a", strings.Repeat("y", over-1)))
		committed(t, "another file", d, s, y, gone("a"), put("b", strings.Repeat("z", over)))
	}
	d, s := withFiles(t, someFiles())
	refused(t, "far more", d, s, api.ErrFull, put("b", strings.Repeat("x", 1<<20)))
}

// wide makes a disk with the bytes of one file that fill these home sectors with one byte each; the wal has room for six changes.
func wide(t *testing.T, fill ...byte) (*disk.Disk, *files.Store) {
	t.Helper()
	d := layHome(t, newDisk(t, 60, size), standing(texts{"a": wideData(fill...)}.image(), 30*size))
	return d, mustOpen(t, d)
}

// wideData tells data of a file a that, alone, fills the second and all further home sectors with one byte each, and the first one up to its end.
func wideData(fill ...byte) string {
	ahead := 8 + len(texts{"a": ""}.image())
	b := bytes.Repeat([]byte{fill[0]}, size-ahead)
	for _, c := range fill[1:] {
		b = append(b, bytes.Repeat([]byte{c}, size)...)
	}
	return string(b)
}

// P13.3: layer 12's ErrFull, if more home sectors would change than it has room for; as many are changed.
func TestCommitOfManySectors(t *testing.T) {
	fill := []byte("abcdefghijkl")
	for changed := range len(fill) + 1 {
		for _, from := range []int{0, len(fill) - changed} {
			d, s := wide(t, fill...)
			next := slices.Clone(fill)
			for k := range changed {
				next[from+k] ^= 32
			}
			l := put("a", wideData(next...))
			if changed > 6 {
				refused(t, "too many sectors", d, s, api.ErrFull, l)
			} else {
				committed(t, "as many sectors", d, s, nil, l)
			}
		}
	}
	d, s := wide(t, fill...)
	refused(t, "too many to noughts", d, s, api.ErrFull, put("a", wideData(fill[:4]...)))
	d, s = wide(t, fill[:6]...)
	committed(t, "six to noughts", d, s, texts{"a": wideData(fill[:6]...)}, gone("a"))
}

// changedSectors tells which home sectors of one disk don't have what those of another one have.
func changedSectors(t *testing.T, d, o *disk.Disk) []int {
	t.Helper()
	var l []int
	a, b := homeOn(t, d), homeOn(t, o)
	for i := range len(a) / d.Size() {
		if !bytes.Equal(a[i*d.Size():][:d.Size()], b[i*d.Size():][:d.Size()]) {
			l = append(l, i)
		}
	}
	return l
}

// P13.3: those home sectors alone are changed that would have other bytes, from the first one on: the commands are two for each of them, and six.
func TestCommitChangesSectors(t *testing.T) {
	x := texts{"a": strings.Repeat("x", 100), "b": strings.Repeat("y", 100), "c": strings.Repeat("z", 100)}
	d := newDisk(t, 60, size)
	s := mustOpen(t, d)
	mustCommit(t, s, x.edits()...)
	for _, l := range [][]files.Edit{
		{put("a", "X"+strings.Repeat("x", 99))},
		{put("b", strings.Repeat("y", 99)+"Y")},
		{put("c", strings.Repeat("z", 101))},
		{put("c", strings.Repeat("z", 99)+"\x00")},
		{put("d", "")},
		{put("a", "x")},
		{gone("a")},
		{gone("c"), gone("b"), gone("a")},
	} {
		o := d.Copy()
		s := mustOpen(t, o)
		committed(t, fmt.Sprintf("%d edits of %s", len(l), l[0].Name), o, s, x, l...)
		changed := changedSectors(t, d, o)
		if len(changed) == 0 || o.Done()-d.Done() != 2*len(changed)+6 {
			t.Errorf("%v changed by %d commands", changed, o.Done()-d.Done())
		}
		for arm := range 2*len(changed) + 6 {
			p := d.Copy()
			p.Arm(arm)
			if e := mustOpen(t, p).Commit(l...); e != api.ErrDown {
				t.Errorf("with power for %d commands: error %d", arm, e)
			}
		}
	}
}

// P13.3: which home sectors would change is asked of the disk: of one that was tampered with, the next commit makes what it should be.
func TestCommitBehindTampering(t *testing.T) {
	x := someFiles()
	d, s := withFiles(t, x)
	for _, sector := range []int{1, 2, 3, 10} {
		if e := d.Tamper(sector, bytes.Repeat([]byte{9}, size)); e != api.OK {
			t.Fatalf("Tamper: error %d", e)
		}
		wantFiles(t, "tampered with", s, x)
		x = committed(t, "tampered with", d, s, x, put("z", fmt.Sprint(sector)))
	}
}

// P13.3: ErrDown, if the power goes; then all is ErrDown, ahead of the other errors, but for no edits, and what it tells stays.
func TestCommitDown(t *testing.T) {
	x := someFiles()
	d, s := withFiles(t, x)
	d.Arm(0)
	if e := s.Commit(put("n", "")); e != api.ErrDown {
		t.Fatalf("Commit without power: error %d", e)
	}
	for range 2 {
		wantDown(t, "down", s, true)
		wantFiles(t, "down", s, x)
		wantNoRead(t, "down", s, "n")
		for _, l := range [][]files.Edit{{put("n", "")}, {put("A", "")}, {gone("none")}, {put("n", ""), put("n", "")}, {put("a", "")}, {put("n", strings.Repeat("x", 700))}, {put("z", x["z"])}, numbered(1025).edits()} {
			refused(t, "down", d, s, api.ErrDown, l...)
		}
		refused(t, "down, and nothing", d, s, api.OK)
		if s.Quota() != 632 {
			t.Errorf("down: Quota %d", s.Quota())
		}
		d.Crash()
	}
	s = mustOpen(t, d)
	committed(t, "opened anew", d, s, told(s), put("n", "x"))
}

// P13.3: whenever the power goes in a commit, the store tells the files that it had ahead of it.
func TestCommitDownKeeps(t *testing.T) {
	x := someFiles()
	for arm := range 30 {
		d, s := withFiles(t, x)
		d.Arm(arm)
		if s.Commit(put("n", "new"), gone("z"), put("a/b", "")) == api.OK {
			if arm < 8 {
				t.Errorf("%d commands were enough", arm)
			}
			return
		}
		wantDown(t, "down", s, true)
		wantFiles(t, "down", s, x)
	}
	t.Errorf("30 commands weren't enough")
}

// P13.3: errors of edits come ahead of that of a disk which is found to be down.
func TestCommitFindsDown(t *testing.T) {
	x := someFiles()
	d, s := withFiles(t, x)
	bring(t, d)
	refused(t, "not found yet", d, s, api.ErrName, put("A", ""))
	refused(t, "not found yet", d, s, api.ErrNone, gone("none"))
	refused(t, "not found yet", d, s, api.ErrClash, put("a", ""))
	refused(t, "not found yet", d, s, api.ErrFull, put("n", strings.Repeat("x", 700)))
	if e := s.Commit(put("n", "")); e != api.ErrDown {
		t.Errorf("found: error %d", e)
	}
	wantDown(t, "found", s, true)
	wantFiles(t, "found", s, x)
}

// P13.3: what is refused changes nothing: the same commits go on as if it had not been.
func TestRefusedThenRight(t *testing.T) {
	d, s := withFiles(t, someFiles())
	o := d.Copy()
	v := mustOpen(t, o)
	s.Commit(put("n", "lost"), put("A", ""))
	s.Commit(gone("z"), gone("z"))
	s.Commit(gone("z"), gone("none"))
	s.Commit(put("n", ""), put("a", ""))
	s.Commit(gone("z"), put("n", strings.Repeat("x", 700)))
	s.Commit()
	for _, l := range [][]files.Edit{{put("m", "1")}, {gone("z"), put("n", "2")}} {
		mustCommit(t, s, l...)
		mustCommit(t, v, l...)
	}
	wantAlike(t, "refused, then right", d, o)
	wantFiles(t, "refused, then right", s, told(v))
}

// P13.3: commits of many files in any order of edits lead to one image.
func TestCommitInAnyOrder(t *testing.T) {
	r := rand.New(rand.NewPCG(13, 3))
	x := someFiles()
	first, _ := withFiles(t, x)
	for range 20 {
		l := x.edits()
		r.Shuffle(len(l), func(a, b int) { l[a], l[b] = l[b], l[a] })
		d := newDisk(t, sectors, size)
		mustCommit(t, mustOpen(t, d), l...)
		wantAlike(t, "in another order", d, first)
	}
}
