package files_test

import (
	"bytes"
	"math"
	"strings"
	"testing"

	"syngraph/api"
	"syngraph/disk"
	"syngraph/files"
)

// anyTexts are such as may be handed in for a name or a directory.
func anyTexts() []string {
	l := []string{"", "a", "z", "a/b", "a/", "/a", "/", "//", "a//b", ".", "..", "...", "a/..", "A", " ", "é", "\x00", "\xff\xfe", "a\x80b"}
	for _, n := range []int{63, 64, 65, 1000, 1 << 20} {
		l = append(l, strings.Repeat("a", n), strings.Repeat("/", n), strings.Repeat("a/", n), strings.Repeat("\xff", n))
	}
	return l
}

// anyData are such as may be handed in for a file's data.
func anyData() [][]byte {
	return [][]byte{nil, {}, {0}, bytes.Repeat([]byte{7}, 600), make([]byte, 1<<20)}
}

// callAll opens a disk, and makes each call that its store has, if it has one, at these arguments.
func callAll(d *disk.Disk, name string, data []byte) {
	s, e := files.Open(d)
	if e != api.OK {
		return
	}
	c := files.Edit{Name: name, Data: data}
	g := files.Edit{Name: name, Data: data, Gone: true}
	for _, l := range [][]files.Edit{nil, {}, {{}}, {c}, {c, c}, {c, g}, {g, c}, {g}, {g, g}, {c, {Name: name + "/x"}}, {{Name: "n"}, c, {}}} {
		s.Commit(l...)
		s.Read(name)
		s.List(name)
		s.Names()
		s.Used()
		s.Quota()
		s.Down()
		each := s.Each()
		for range each {
			break
		}
		for range each {
		}
	}
}

// P1 of DOC.md: every call ends and none panics, of disks at all bounds, with power and without, at any texts and any data.
func TestAnyArguments(t *testing.T) {
	for _, x := range [][2]int{{1, 16}, {2, 32}, {3, 31}, {3, 32}, {3, 33}, {4, 32}, {9, 64}, {sectors, size}} {
		for _, name := range anyTexts() {
			for _, data := range anyData() {
				d := newDisk(t, x[0], x[1])
				callAll(d, name, data)
				d.Arm(len(data) % 7)
				callAll(d, name, data)
				callAll(d, name, data)
			}
		}
	}
}

// P1 of DOC.md: Name and Image, at any texts and any data.
func TestAnyNameAndImage(t *testing.T) {
	for _, name := range anyTexts() {
		files.Name(name)
		for _, data := range anyData() {
			files.Image(map[string][]byte{name: data})
			files.Image(map[string][]byte{name: data, name + "/x": data})
		}
	}
}

// P1 of DOC.md: the greatest disks, new and with as many bytes as they may have.
func TestGreatest(t *testing.T) {
	d := newDisk(t, api.MaxSectors, 32)
	callAll(d, "a/b", []byte("c"))
	x := texts{"a": strings.Repeat("x", 1<<20-8-8-4-1-4)}
	layHome(t, d, standing(x.image(), 1<<20))
	wantFiles(t, "the greatest", mustOpen(t, d), x)
	callAll(d, "a/b", []byte("c"))
	callAll(d, "a", []byte("c"))
}

// P1 of DOC.md, and P13.2: home of any numbers, for the length and for the count.
func TestHomesOfAnyNumbers(t *testing.T) {
	numbers := []int{math.MinInt, math.MinInt + 1, -1 << 32, -9, -8, -1, 0, 1, 7, 8, 9, 16, 17, 1024, 1025, 1 << 31, 1 << 32, 1 << 61, math.MaxInt - 1, math.MaxInt}
	for _, length := range numbers {
		for _, count := range numbers {
			for _, name := range []int{0, 1, 2, 1 << 31, 1<<32 - 1} {
				home := append(append(number(length), number(count)...), counted("")...)
				copy(home[16:], number(name)[4:])
				home = append(home, 'a', 0, 0, 0, 0)
				right := length == 17 && count == 1 && name == 1
				s, e := files.Open(layHome(t, newDisk(t, 5, 33), home))
				if (e == api.OK) != right || (s != nil) != right || !right && e != api.ErrBad {
					t.Errorf("length %d, count %d, a name of %d: error %d", length, count, name, e)
				}
			}
		}
	}
}
