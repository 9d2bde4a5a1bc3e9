package files_test

import (
	"bytes"
	"maps"
	"slices"
	"testing"

	"syngraph/api"
	"syngraph/disk"
	"syngraph/files"
)

// roomy tells the same bytes with spare room behind them that has something in it.
func roomy(b []byte) []byte {
	return append(slices.Clone(b), 0xaa, 0xbb, 0xcc)[:len(b)]
}

// spoil fills bytes with other ones, their spare room too.
func spoil(b []byte) {
	b = b[:cap(b)]
	for i := range b {
		b[i] = 0xee
	}
}

// roomyEdits tells the same edits with spare room behind each one's data and behind the list.
func roomyEdits(l []files.Edit) []files.Edit {
	given := make([]files.Edit, 0, len(l)+2)
	for _, c := range l {
		given = append(given, files.Edit{Name: c.Name, Data: roomy(c.Data), Gone: c.Gone})
	}
	return append(given, put("spare", "room"), gone("spare"))[:len(l)]
}

// deep tells edits once more, with all that is behind them.
func deep(l []files.Edit) []files.Edit {
	var o []files.Edit
	for _, c := range l[:cap(l)] {
		o = append(o, files.Edit{Name: c.Name, Data: slices.Clone(c.Data[:cap(c.Data)]), Gone: c.Gone})
	}
	return o
}

// spoilEdits fills edits with other ones, their spare room too.
func spoilEdits(l []files.Edit) {
	l = l[:cap(l)]
	for k := range l {
		spoil(l[k].Data)
		l[k] = put("spoiled", "edit")
	}
}

// wantSame holds edits, with all that is behind them, to being as they were.
func wantSame(t *testing.T, what string, l, then []files.Edit) {
	t.Helper()
	same := func(a, b files.Edit) bool {
		return a.Name == b.Name && a.Gone == b.Gone && bytes.Equal(a.Data, b.Data)
	}
	if !slices.EqualFunc(deep(l), then, same) {
		t.Errorf("%s: edits, or what is behind them, were changed", what)
	}
}

// editsOfAllKinds are edits that a store of someFiles may make, and such as are refused.
func editsOfAllKinds() [][]files.Edit {
	return append(someCommits(),
		nil,
		someFiles().edits(),
		[]files.Edit{put("n", "x"), put("A", "y")},
		[]files.Edit{put("n", "x"), put("n", "y")},
		[]files.Edit{put("n", "x"), gone("none")},
		[]files.Edit{put("n", "x"), put("a", "y")},
		[]files.Edit{put("n", "x"), put("m", string(make([]byte, 700)))},
		numbered(1025).edits(),
		[]files.Edit{{Name: "z", Data: []byte("left"), Gone: true}, put("b", "x"), put("a-b/.c", "y")},
	)
}

// P13.4: edits that are handed in are the same behind Commit, in their order, with their spare room, also where they are refused or the power goes.
func TestEditsNotChanged(t *testing.T) {
	for _, l := range editsOfAllKinds() {
		for _, arm := range []int{-1, 0, 3, 7} {
			d, s := withFiles(t, someFiles())
			given := roomyEdits(l)
			then := deep(given)
			d.Arm(arm)
			s.Commit(given...)
			wantSame(t, "committed", given, then)
			for _, b := range s.Each() {
				spoil(b)
			}
			d.Crash()
			o := mustOpen(t, d)
			o.Commit(put("z", "other"), put("n", "other"))
			wantSame(t, "committed, and others behind", given, then)
		}
	}
}

// P13.4: changing edits that were handed in changes nothing that is told later, behind Commit, or behind a crash in it.
func TestEditsNotKept(t *testing.T) {
	for _, l := range editsOfAllKinds() {
		for _, arm := range []int{-1, 0, 5} {
			d, s := withFiles(t, someFiles())
			o := d.Copy()
			v := mustOpen(t, o)
			given := roomyEdits(l)
			d.Arm(arm)
			o.Arm(arm)
			if s.Commit(given...) != v.Commit(l...) {
				t.Fatalf("two errors")
			}
			spoilEdits(given)
			wantFiles(t, "edits changed behind", s, told(v))
			wantAlike(t, "edits changed behind", d, o)
			d.Crash()
			o.Crash()
			s, v = mustOpen(t, d), mustOpen(t, o)
			wantFiles(t, "edits changed behind, opened", s, told(v))
			mustCommit(t, s, put("m", "x"))
			mustCommit(t, v, put("m", "x"))
			wantAlike(t, "edits changed behind, and a commit more", d, o)
		}
	}
}

// P13.4: one list of bytes for two files is no bond between them.
func TestDataOfTwoFiles(t *testing.T) {
	d, s := withFiles(t, nil)
	b := roomy([]byte("both"))
	mustCommit(t, s, files.Edit{Name: "a", Data: b}, files.Edit{Name: "b", Data: b})
	spoil(b)
	read, _ := s.Read("a")
	spoil(read)
	wantFiles(t, "two of one list", s, texts{"a": "both", "b": "both"})
	mustCommit(t, s, put("a", "one"))
	wantFiles(t, "two of one list, one changed", s, texts{"a": "one", "b": "both"})
	wantStands(t, "two of one list, one changed", d, texts{"a": "one", "b": "both"})
}

// tell calls all that tells something of a store, fills it with other bytes behind it, their spare room too, and tells it as it was ahead.
func tell(s *files.Store) texts {
	x := told(s)
	for name := range x {
		b, _ := s.Read(name)
		spoil(append(b, 1))
		spoil(b)
	}
	for _, b := range s.Each() {
		spoil(append(b, 1))
		spoil(b)
	}
	for _, l := range [][]string{s.Names(), s.List(""), s.List("a"), s.List("none")} {
		l = append(l, "spoiled")[:0]
		l = l[:cap(l)]
		for k := range l {
			l[k] = "spoiled"
		}
	}
	return x
}

// P13.4: what Read, Names, List and Each told is the caller's own, its spare room too: changing it changes nothing that is told later.
func TestToldIsNew(t *testing.T) {
	x := someFiles()
	d, s := withFiles(t, x)
	before := d.Copy()
	for range 2 {
		if y := tell(s); !maps.Equal(y, x) {
			t.Errorf("changing what was told: %q", y)
		}
		wantList(t, s, "a", "b", "c/")
		wantFiles(t, "changing what was told", s, x)
		wantAlike(t, "changing what was told", d, before)
	}
	s = mustOpen(t, d)
	tell(s)
	x = committed(t, "behind changing", d, s, x, put("n", "new"))
	tell(s)
	committed(t, "behind changing again", d, s, x, gone("n"))
}

// P13.4: no two answers share anything.
func TestAnswersApart(t *testing.T) {
	x := someFiles()
	_, s := withFiles(t, x)
	each := s.Each()
	for name, want := range x {
		a, _ := s.Read(name)
		b, _ := s.Read(name)
		spoil(a)
		if string(b) != want {
			t.Errorf("two Reads of %q share their bytes", name)
		}
	}
	for range each {
		for name, b := range each {
			if string(b) != x[name] {
				t.Errorf("two of Each share the bytes of %q", name)
			}
			spoil(b)
		}
	}
	a, b := s.Names(), s.Names()
	a[0] = "spoiled"
	if !slices.Equal(b, x.names()) {
		t.Errorf("two of Names share their texts")
	}
	a, b = s.List(""), s.List("")
	a[0] = "spoiled"
	if !slices.Equal(b, x.list("")) {
		t.Errorf("two of List share their texts")
	}
}

// P13.4: what a store told is not changed behind it by commits.
func TestToldIsNotReached(t *testing.T) {
	x := someFiles()
	d, s := withFiles(t, x)
	y, names, list := map[string][]byte{}, s.Names(), s.List("")
	for name, b := range s.Each() {
		y[name] = b
	}
	for name := range x {
		mustCommit(t, s, put(name, "other"))
	}
	mustCommit(t, s, gone("z"), gone("a/b"))
	if e := d.Tamper(1, make([]byte, size)); e != api.OK {
		t.Fatalf("Tamper: error %d", e)
	}
	if !maps.EqualFunc(y, x.data(), bytes.Equal) || !slices.Equal(names, x.names()) || !slices.Equal(list, x.list("")) {
		t.Errorf("what was told was changed behind it: %q, %q, %q", y, names, list)
	}
}

// P13.4: files that are handed to Image are the same behind it, with their spare room, and are not kept; what it tells is new.
func TestImageMemory(t *testing.T) {
	for _, x := range []texts{nil, someFiles(), numbered(1025), {"A": "x", "b": "y"}, {"a": "x", "a/b": "y"}} {
		given, then := map[string][]byte{}, map[string][]byte{}
		for name, b := range x.data() {
			given[name] = roomy(b)
			then[name] = given[name][:len(b)+3]
			then[name] = slices.Clone(then[name])
		}
		a, e := files.Image(given)
		for name, b := range given {
			if !bytes.Equal(b[:len(b)+3], then[name]) {
				t.Errorf("the data of %q, or what is behind it, was changed", name)
			}
		}
		if len(given) != len(x) {
			t.Errorf("%d files, not %d any more", len(given), len(x))
		}
		if e != api.OK {
			continue
		}
		b, _ := files.Image(given)
		for _, data := range given {
			spoil(data)
		}
		spoil(append(a, 1))
		spoil(a)
		if !bytes.Equal(b, x.image()) {
			t.Errorf("two images share something, or one with its files")
		}
	}
}

// P13.4: a store works on the disk that it was opened on, and on no copy of it, whichever way round.
func TestDiskIsKept(t *testing.T) {
	x := someFiles()
	d, s := withFiles(t, x)
	o := d.Copy()
	v := mustOpen(t, o)
	mustCommit(t, s, put("n", "1"))
	mustCommit(t, v, put("m", "2"))
	wantFiles(t, "the disk", s, x.with(put("n", "1")))
	wantFiles(t, "its copy", v, x.with(put("m", "2")))
	wantStands(t, "the disk", d, x.with(put("n", "1")))
	wantStands(t, "its copy", o, x.with(put("m", "2")))
	o.Arm(0)
	if e := v.Commit(put("l", "")); e != api.ErrDown {
		t.Errorf("Commit without power: error %d", e)
	}
	wantDown(t, "the disk", s, false)
	mustCommit(t, s, put("l", ""))
}

// P13.4: stores on disks of their own stand for themselves alone.
func TestStoresApart(t *testing.T) {
	var disks []*disk.Disk
	var stores []*files.Store
	for range 4 {
		d := newDisk(t, sectors, size)
		disks, stores = append(disks, d), append(stores, mustOpen(t, d))
	}
	for k, s := range stores {
		mustCommit(t, s, put("both", "same"), put(string(rune('a'+k)), "own"))
	}
	for k, s := range stores {
		x := texts{"both": "same", string(rune('a' + k)): "own"}
		wantFiles(t, "apart", s, x)
		wantStands(t, "apart", disks[k], x)
	}
}
