package files_test

import (
	"bytes"
	"encoding/binary"
	"maps"
	"slices"
	"strings"
	"testing"

	"syngraph/api"
	"syngraph/disk"
	"syngraph/files"
)

// What most disks here have: ten home sectors, of which six may be changed at once.
const (
	sectors = 20
	size    = 64
)

// texts are files, as the tests write them.
type texts map[string]string

// names tells the names of files, rising.
func (x texts) names() []string {
	l := make([]string, 0, len(x))
	for name := range x {
		l = append(l, name)
	}
	slices.Sort(l)
	return l
}

// data tells the files as Image takes them.
func (x texts) data() map[string][]byte {
	m := map[string][]byte{}
	for name, s := range x {
		m[name] = []byte(s)
	}
	return m
}

// edits tells edits that make all files.
func (x texts) edits() []files.Edit {
	var l []files.Edit
	for _, name := range x.names() {
		l = append(l, put(name, x[name]))
	}
	return l
}

// with tells what files there are behind some edits.
func (x texts) with(l ...files.Edit) texts {
	y := maps.Clone(x)
	if y == nil {
		y = texts{}
	}
	for _, c := range l {
		if c.Gone {
			delete(y, c.Name)
		} else {
			y[c.Name] = string(c.Data)
		}
	}
	return y
}

// list tells what lies in a directory, by a look at each name.
func (x texts) list(dir string) []string {
	found := map[string]int{}
	for name := range x {
		rest := name
		if dir != "" {
			if !strings.HasPrefix(name, dir+"/") {
				continue
			}
			rest = name[len(dir)+1:]
		}
		if first, _, more := strings.Cut(rest, "/"); more {
			found[first+"/"]++
		} else {
			found[rest]++
		}
	}
	return slices.Sorted(maps.Keys(found))
}

// image tells the files' image, byte by byte.
func (x texts) image() []byte {
	b := number(len(x))
	for _, name := range x.names() {
		b = append(b, counted(name)...)
		b = append(b, counted(x[name])...)
	}
	return b
}

// number tells a number in the bytes of layer 3.
func number(n int) []byte {
	return binary.BigEndian.AppendUint64(nil, uint64(n))
}

// counted tells bytes, or a text, in the bytes of layer 3.
func counted(s string) []byte {
	return append(binary.BigEndian.AppendUint32(nil, uint32(len(s))), s...)
}

// standing tells what home has if an image stands there: n bytes.
func standing(image []byte, n int) []byte {
	b := append(number(len(image)), image...)
	return append(b, make([]byte, n-len(b))...)
}

// put tells an edit that gives a file its data.
func put(name, data string) files.Edit {
	return files.Edit{Name: name, Data: []byte(data)}
}

// gone tells an edit that ends a file.
func gone(name string) files.Edit {
	return files.Edit{Name: name, Gone: true}
}

// homesOf tells how many home sectors a disk of n sectors should have, in whole numbers alone.
func homesOf(n int) int {
	h := 0
	for rest := n - 1; rest > 0; rest -= 2 {
		h++
	}
	return h
}

// newDisk makes a disk that may be.
func newDisk(t *testing.T, n, size int) *disk.Disk {
	t.Helper()
	d := disk.New(n, size)
	if d == nil {
		t.Fatalf("New of %d sectors of %d bytes: none", n, size)
	}
	return d
}

// mustOpen opens a disk that has files, and power.
func mustOpen(t *testing.T, d *disk.Disk) *files.Store {
	t.Helper()
	s, e := files.Open(d)
	if e != api.OK || s == nil {
		t.Fatalf("Open of %d sectors of %d bytes: error %d", d.Sectors(), d.Size(), e)
	}
	return s
}

// mustCommit makes edits that may be made, of a store whose disk has power.
func mustCommit(t *testing.T, s *files.Store, l ...files.Edit) {
	t.Helper()
	if e := s.Commit(l...); e != api.OK {
		t.Fatalf("Commit of %d edits: error %d", len(l), e)
	}
}

// withFiles makes a disk of a store with files.
func withFiles(t *testing.T, x texts) (*disk.Disk, *files.Store) {
	t.Helper()
	d := newDisk(t, sectors, size)
	s := mustOpen(t, d)
	mustCommit(t, s, x.edits()...)
	return d, s
}

// someFiles are files on several levels.
func someFiles() texts {
	return texts{
		"a/b":      "one",
		"a/c/d":    strings.Repeat("two", 9),
		"a.b":      "",
		"a-b/.c":   "three",
		"z":        "\x00\xff\x00",
		"usr/x1_2": "four",
	}
}

// bring brings the power of a disk down.
func bring(t *testing.T, d *disk.Disk) *disk.Disk {
	t.Helper()
	d.Arm(0)
	if e := d.Flush(); e != api.ErrDown {
		t.Fatalf("Flush without power: error %d", e)
	}
	return d
}

// homeOn tells the home sectors that a disk has, one behind the other.
func homeOn(t *testing.T, d *disk.Disk) []byte {
	t.Helper()
	var all []byte
	for i := range homesOf(d.Sectors()) {
		b, e := d.Read(1 + i)
		if e != api.OK {
			t.Fatalf("Read of sector %d: error %d", 1+i, e)
		}
		all = append(all, b...)
	}
	return all
}

// layHome puts these bytes into the home sectors of a disk, and noughts behind them.
func layHome(t *testing.T, d *disk.Disk, b []byte) *disk.Disk {
	t.Helper()
	all := make([]byte, homesOf(d.Sectors())*d.Size())
	if copy(all, b) < len(b) {
		t.Fatalf("%d bytes at home: they have no room", len(b))
	}
	for i := range homesOf(d.Sectors()) {
		if e := d.Tamper(1+i, all[i*d.Size():][:d.Size()]); e != api.OK {
			t.Fatalf("Tamper of sector %d: error %d", 1+i, e)
		}
	}
	return d
}

// wantFiles holds a store to having these files and no others, in all that it tells.
func wantFiles(t *testing.T, what string, s *files.Store, x texts) {
	t.Helper()
	names := x.names()
	if l := s.Names(); !slices.Equal(l, names) {
		t.Fatalf("%s: Names %q, not %q", what, l, names)
	}
	for name, want := range x {
		if b, e := s.Read(name); e != api.OK || string(b) != want {
			t.Errorf("%s: Read of %q: %q, error %d, not %q", what, name, b, e, want)
		}
	}
	if n := len(x.image()); s.Used() != n {
		t.Errorf("%s: Used %d, not %d", what, s.Used(), n)
	}
	if l := s.List(""); !slices.Equal(l, x.list("")) {
		t.Errorf("%s: List of all: %q, not %q", what, l, x.list(""))
	}
	k := 0
	for name, b := range s.Each() {
		if k >= len(names) || name != names[k] || string(b) != x[name] {
			t.Errorf("%s: Each tells %q, %q in place %d", what, name, b, k)
		}
		k++
	}
	if k != len(names) {
		t.Errorf("%s: Each tells %d files, not %d", what, k, len(names))
	}
}

// wantStands holds a disk to having the image of these files, as it should stand there.
func wantStands(t *testing.T, what string, d *disk.Disk, x texts) {
	t.Helper()
	home := homeOn(t, d)
	if want := standing(x.image(), len(home)); !bytes.Equal(home, want) {
		t.Errorf("%s: at home stands %q, not %q", what, home, want)
	}
}

// wantNoStore holds Open to an error with no store beside it.
func wantNoStore(t *testing.T, what string, d *disk.Disk, want api.Errno) {
	t.Helper()
	if s, e := files.Open(d); e != want || s != nil {
		t.Errorf("%s: Open: a store %t, error %d, not %d", what, s != nil, e, want)
	}
}

// wantNoRead holds Read to ErrNone with nothing beside it.
func wantNoRead(t *testing.T, what string, s *files.Store, name string) {
	t.Helper()
	if b, e := s.Read(name); e != api.ErrNone || len(b) > 0 {
		t.Errorf("%s: Read of %q: %q, error %d, not %d", what, name, b, e, api.ErrNone)
	}
}

// wantList holds List of a directory.
func wantList(t *testing.T, s *files.Store, dir string, want ...string) {
	t.Helper()
	if l := s.List(dir); !slices.Equal(l, want) {
		t.Errorf("List of %q: %q, not %q", dir, l, want)
	}
}

// wantDown holds Down of a store.
func wantDown(t *testing.T, what string, s *files.Store, want bool) {
	t.Helper()
	if s.Down() != want {
		t.Errorf("%s: Down: %t", what, s.Down())
	}
}

// wantAlike holds a disk to being the same as another one, in all that is told of it: as it is read, by what is cached, and behind a crash that loses all of that or nothing.
func wantAlike(t *testing.T, what string, d, want *disk.Disk) {
	t.Helper()
	if d.Done() != want.Done() || d.Down() != want.Down() {
		t.Errorf("%s: %d done, down %t, not %d, %t", what, d.Done(), d.Down(), want.Done(), want.Down())
	}
	cached := want.Cached()
	if l := d.Cached(); !slices.Equal(l, cached) {
		t.Errorf("%s: %v cached, not %v", what, l, cached)
	}
	for _, lost := range [][]int{nil, cached} {
		c, o := d.Copy(), want.Copy()
		c.Crash(lost...)
		o.Crash(lost...)
		if l, same := c.Differ(o); !same || len(l) > 0 {
			t.Errorf("%s, crashed: sectors %v are not as they should be", what, l)
		}
	}
}

// The chapter's example.
func TestExample(t *testing.T) {
	_, s := withFiles(t, texts{"a/b": "", "a/c/d": ""})
	wantList(t, s, "a", "b", "c/")
}

// P13.2: a new disk has no files, and Open does no command of it.
func TestOpenNew(t *testing.T) {
	for _, x := range [][2]int{{3, 32}, {4, 33}, {sectors, size}, {3, api.MaxSector}, {api.MaxSectors, 32}} {
		d := newDisk(t, x[0], x[1])
		before := d.Copy()
		s := mustOpen(t, d)
		wantFiles(t, "new", s, texts{})
		wantAlike(t, "new", d, before)
		wantDown(t, "new", s, false)
		wantNoRead(t, "new", s, "a")
		if l := s.List("a"); len(l) > 0 {
			t.Errorf("List of a new disk: %q", l)
		}
	}
}

// P13.2: a disk with files is opened, again and again, without a command done.
func TestOpenWithFiles(t *testing.T) {
	x := someFiles()
	d, _ := withFiles(t, x)
	before := d.Copy()
	for range 3 {
		wantFiles(t, "opened", mustOpen(t, d), x)
	}
	wantAlike(t, "opened", d, before)
}

// P13.2: the image of no files is right, too, as is a home of noughts alone: both have no files, and go on.
func TestOpenNoFiles(t *testing.T) {
	for _, home := range [][]byte{nil, standing(texts{}.image(), 16)} {
		d := layHome(t, newDisk(t, sectors, size), home)
		s := mustOpen(t, d)
		wantFiles(t, "no files", s, texts{})
		mustCommit(t, s, put("a", "b"))
		wantStands(t, "behind no files", d, texts{"a": "b"})
	}
}

// P13.2: what other programs lay there, by the chapter's words, is read, up to the last byte of home.
func TestOpenLaid(t *testing.T) {
	full := texts{"a": strings.Repeat("x", 632-8-4-1-4)}
	for _, x := range []texts{{"a": ""}, {"a": "b"}, someFiles(), {strings.Repeat("a", 64): "x"}, full} {
		d := newDisk(t, sectors, size)
		layHome(t, d, standing(x.image(), 640))
		wantFiles(t, "laid", mustOpen(t, d), x)
	}
}

// P13.2: layer 12's errors: of disks that are too small, or down, or have a head that is not right, each ahead of ErrBad.
func TestOpenErrorsOfWal(t *testing.T) {
	bad := bytes.Repeat([]byte{9}, 32)
	for _, x := range [][2]int{{2, 32}, {3, 31}, {1, 16}, {2, api.MaxSector}, {api.MaxSectors, 16}} {
		wantNoStore(t, "too small", newDisk(t, x[0], x[1]), api.ErrRange)
	}
	for _, home := range [][]byte{nil, bad} {
		d := layHome(t, newDisk(t, 9, 32), home)
		if e := d.Tamper(0, bad); e != api.OK {
			t.Fatalf("Tamper: error %d", e)
		}
		wantNoStore(t, "a head that is not right", d, api.ErrBad)
		wantNoStore(t, "down", bring(t, d), api.ErrDown)
		d.Crash()
		wantNoStore(t, "a head that is not right, crashed", d, api.ErrBad)
	}
	d := layHome(t, newDisk(t, 9, 32), bad)
	wantNoStore(t, "down, and no image", bring(t, d), api.ErrDown)
	wantNoStore(t, "down, and no image, and too small", bring(t, layHome(t, newDisk(t, 2, 32), bad)), api.ErrRange)
}

// P13.2: the power may end at each of Open's commands, where there is something to be done: then ErrDown, and behind a crash it is opened.
func TestOpenArmed(t *testing.T) {
	x := someFiles()
	edits := []files.Edit{put("z", "new"), gone("a/b"), put("more", "and more")}
	seen := 0
	for arm := range 30 {
		d, s := withFiles(t, x)
		d.Arm(arm)
		if s.Commit(edits...) == api.OK {
			break
		}
		d.Crash()
		want := x
		if slices.Equal(mustOpen(t, d.Copy()).Names(), x.with(edits...).names()) {
			want = x.with(edits...)
		}
		for n := 0; ; n++ {
			o := d.Copy()
			o.Arm(n)
			if s, e := files.Open(o); e == api.OK {
				wantFiles(t, "with power enough", s, want)
				break
			} else if e != api.ErrDown || s != nil {
				t.Fatalf("Open with power for %d commands: a store %t, error %d", n, s != nil, e)
			}
			o.Crash()
			wantFiles(t, "opened again", mustOpen(t, o), want)
			seen++
		}
	}
	if seen < 10 {
		t.Errorf("Open met the end of the power only %d times", seen)
	}
}

// P13.2: names rise by bytes, whatever the order of edits was.
func TestNames(t *testing.T) {
	_, s := withFiles(t, nil)
	mustCommit(t, s, put("b", ""), put("a/z", ""), put("a-", ""), put("a.", ""), put("a0", ""), put("_", ""), put("aa", ""), put("9", ""), put("a/b", ""), put("-", ""), put("z", ""))
	want := []string{"-", "9", "_", "a-", "a.", "a/b", "a/z", "a0", "aa", "b", "z"}
	if l := s.Names(); !slices.Equal(l, want) {
		t.Errorf("Names: %q, not %q", l, want)
	}
}

// P13.2: of what is no file's name, ErrNone: directories, names that begin or end alike, and what is no name at all.
func TestReadNone(t *testing.T) {
	_, s := withFiles(t, someFiles())
	for _, name := range []string{"", "/", "a", "a/", "a/c", "a/c/", "a/c/d/", "/a/b", "a/b/", "a//b", "b", "a/B", "a/c/e", "a/c/d/e", "usr", "Z", "z ", "zz", ".", "a\x00b", strings.Repeat("z", 65), strings.Repeat("a/", 1000)} {
		wantNoRead(t, "none", s, name)
	}
}

// P13.2: List of all names, of directories on each level, and of what is none.
func TestList(t *testing.T) {
	_, s := withFiles(t, texts{"a/b": "", "a/c/d": "", "a/c/e": "", "a/c.d": "", "a/c-/x": "", "a/d/e/f": "", "a/d/e/g": "", "a.b": "", "ab/c": "", "b": "", "...": ""})
	wantList(t, s, "", "...", "a.b", "a/", "ab/", "b")
	wantList(t, s, "a", "b", "c-/", "c.d", "c/", "d/")
	wantList(t, s, "a/c", "d", "e")
	wantList(t, s, "a/c-", "x")
	wantList(t, s, "a/d", "e/")
	wantList(t, s, "a/d/e", "f", "g")
	wantList(t, s, "ab", "c")
	for _, dir := range []string{"/", "a/", "a/c/", "/a", "//", "b", "a.b", "a/b", "a/c/d", "a/d/e/f", "c", "..", ".", "A", "a/d/", "aa", "a/c/d/e", "a\x00", strings.Repeat("a", 65), strings.Repeat("a/", 1000)} {
		wantList(t, s, dir)
	}
}

// P13.2: Each goes as far as it is asked, and may be gone through again, and by two at once.
func TestEach(t *testing.T) {
	x := someFiles()
	_, s := withFiles(t, x)
	names := x.names()
	each := s.Each()
	for stop := range len(names) + 1 {
		var l []string
		for name, b := range each {
			if len(l) == stop {
				break
			}
			if string(b) != x[name] {
				t.Errorf("Each: %q has %q", name, b)
			}
			l = append(l, name)
		}
		if !slices.Equal(l, names[:stop]) {
			t.Errorf("Each, left behind %d: %q", stop, l)
		}
	}
	pairs := 0
	for a := range each {
		for b := range each {
			if a == b {
				pairs++
			}
		}
	}
	if pairs != len(names) {
		t.Errorf("Each in Each: %d pairs", pairs)
	}
	calls := 0
	each(func(string, []byte) bool {
		calls++
		return false
	})
	if calls != 1 {
		t.Errorf("Each calls %d times what wants no more", calls)
	}
}

// P13.2: what Each told is of the files that there were when it was called, also behind or in the midst of a commit.
func TestEachThen(t *testing.T) {
	x := someFiles()
	_, s := withFiles(t, x)
	each := s.Each()
	mustCommit(t, s, gone("z"), put("new", "file"))
	var l []string
	for name := range each {
		l = append(l, name)
		mustCommit(t, s, put("new", name))
	}
	if !slices.Equal(l, x.names()) {
		t.Errorf("Each behind a commit: %q, not %q", l, x.names())
	}
	wantFiles(t, "behind commits in Each", s, x.with(gone("z"), put("new", "z")))
}

// P13.2: Used counts the image's bytes; Quota is what home has room for behind the length, for several numbers of sectors and sizes.
func TestUsedAndQuota(t *testing.T) {
	for _, x := range []struct{ sectors, size, quota int }{{3, 32, 24}, {3, 33, 25}, {4, 32, 56}, {5, 32, 56}, {6, 32, 88}, {sectors, size, 632}, {19, size, 568}, {3, api.MaxSector, 4088}, {api.MaxSectors, api.MaxSector, 1<<27 - 8}, {api.MaxSectors - 1, 32, 1<<20 - 32 - 8}} {
		s := mustOpen(t, newDisk(t, x.sectors, x.size))
		if s.Quota() != x.quota || s.Used() != 8 {
			t.Errorf("%d sectors of %d bytes: Quota %d, Used %d, not %d, 8", x.sectors, x.size, s.Quota(), s.Used(), x.quota)
		}
	}
	_, s := withFiles(t, nil)
	for _, x := range []struct {
		edit files.Edit
		used int
	}{{put("a", ""), 17}, {put("a", "bc"), 19}, {put("b/c", "d"), 31}, {gone("a"), 20}, {gone("b/c"), 8}} {
		mustCommit(t, s, x.edit)
		if s.Used() != x.used || s.Quota() != 632 {
			t.Errorf("Used %d, Quota %d, not %d, 632", s.Used(), s.Quota(), x.used)
		}
	}
}

// P13.2: a store is down from the first answer on that was ErrDown, and not ahead of it; other errors bring none down.
func TestDown(t *testing.T) {
	d, s := withFiles(t, someFiles())
	wantDown(t, "opened", s, false)
	s.Read("none")
	s.Commit(put("A", ""))
	s.Commit(gone("none"))
	s.Commit(put("a", ""))
	s.Commit(put("b", strings.Repeat("x", 700)))
	wantDown(t, "refused", s, false)
	d.Arm(3)
	wantDown(t, "armed", s, false)
	if e := s.Commit(put("b", "")); e != api.ErrDown {
		t.Fatalf("Commit without power enough: error %d", e)
	}
	wantDown(t, "behind ErrDown", s, true)
	d.Crash()
	wantDown(t, "behind ErrDown, and a crash", s, true)
	wantDown(t, "opened anew", mustOpen(t, d), false)
}
