package disk_test

import (
	"bytes"
	"math"
	"math/rand/v2"
	"slices"
	"testing"

	"syngraph/api"
	"syngraph/disk"
)

// entry is what a model's cache has of a sector.
type entry struct {
	at   int
	data []byte
}

// model is a disk by the chapter's words: a list of sectors, a list of what is cached, the later entry of a sector ahead of the earlier one.
type model struct {
	size    int
	sectors [][]byte
	cached  []entry
	armed   bool
	left    int
	down    bool
	done    int
}

// newModel makes the model of a new disk.
func newModel(n, size int) *model {
	m := &model{size: size}
	for range n {
		m.sectors = append(m.sectors, make([]byte, size))
	}
	return m
}

// copied tells the same model once more.
func (m *model) copied() *model {
	o := *m
	o.sectors = nil
	for _, s := range m.sectors {
		o.sectors = append(o.sectors, slices.Clone(s))
	}
	o.cached = nil
	for _, c := range m.cached {
		o.cached = append(o.cached, entry{c.at, slices.Clone(c.data)})
	}
	return &o
}

// at tells what a sector would be read as.
func (m *model) at(i int) []byte {
	for k := len(m.cached) - 1; k >= 0; k-- {
		if m.cached[k].at == i {
			return m.cached[k].data
		}
	}
	return m.sectors[i]
}

// ending tells whether the power goes with the next command, and counts the command as done if it doesn't.
func (m *model) ending() bool {
	if m.armed && m.left == 0 {
		m.down = true
		return true
	}
	if m.armed {
		m.left--
	}
	m.done++
	return false
}

// wrong tells ErrRange or ErrForm of what should stand in a sector.
func (m *model) wrong(i int, b []byte) api.Errno {
	switch {
	case i < 0 || i >= len(m.sectors):
		return api.ErrRange
	case len(b) != m.size:
		return api.ErrForm
	}
	return api.OK
}

// read is what Read should tell.
func (m *model) read(i int) ([]byte, api.Errno) {
	switch {
	case m.down:
		return nil, api.ErrDown
	case i < 0 || i >= len(m.sectors):
		return nil, api.ErrRange
	}
	return m.at(i), api.OK
}

// write is what Write should do.
func (m *model) write(i int, b []byte) api.Errno {
	if m.down {
		return api.ErrDown
	}
	if e := m.wrong(i, b); e != api.OK {
		return e
	}
	m.cached = append(m.cached, entry{i, slices.Clone(b)})
	if m.ending() {
		return api.ErrDown
	}
	return api.OK
}

// settle puts what is cached into the sectors, in the order in which it was written.
func (m *model) settle() {
	for _, c := range m.cached {
		copy(m.sectors[c.at], c.data)
	}
	m.cached = nil
}

// flush is what Flush should do.
func (m *model) flush() api.Errno {
	if m.down || m.ending() {
		return api.ErrDown
	}
	m.settle()
	return api.OK
}

// forget takes a sector out of the cache.
func (m *model) forget(i int) {
	m.cached = slices.DeleteFunc(m.cached, func(c entry) bool { return c.at == i })
}

// crash is what Crash should do.
func (m *model) crash(lost []int) {
	for _, i := range lost {
		m.forget(i)
	}
	m.settle()
	m.armed, m.down = false, false
}

// arm is what Arm should do.
func (m *model) arm(n int) {
	m.armed, m.left = n >= 0, n
}

// tamper is what Tamper should do.
func (m *model) tamper(i int, b []byte) api.Errno {
	if e := m.wrong(i, b); e != api.OK {
		return e
	}
	copy(m.sectors[i], b)
	m.forget(i)
	return api.OK
}

// cachedNumbers is what Cached should tell.
func (m *model) cachedNumbers() []int {
	var l []int
	for i := range m.sectors {
		if slices.ContainsFunc(m.cached, func(c entry) bool { return c.at == i }) {
			l = append(l, i)
		}
	}
	return l
}

// differ is what Differ should tell.
func (m *model) differ(o *model) ([]int, bool) {
	if len(m.sectors) != len(o.sectors) || m.size != o.size {
		return nil, false
	}
	var l []int
	for i := range m.sectors {
		if !bytes.Equal(m.at(i), o.at(i)) {
			l = append(l, i)
		}
	}
	return l, true
}

// hold holds a disk to all that its model tells; what is behind the power, by a copy whose power comes back with all and with nothing of the cache.
func (m *model) hold(t *testing.T, what string, d *disk.Disk) {
	t.Helper()
	m.holdTold(t, what, d)
	for _, lost := range [][]int{nil, m.cachedNumbers()} {
		o, c := m.copied(), d.Copy()
		o.crash(lost)
		c.Crash(lost...)
		o.holdTold(t, what+", crashed", c)
	}
}

// holdTold holds a disk to what its model tells without a crash.
func (m *model) holdTold(t *testing.T, what string, d *disk.Disk) {
	t.Helper()
	if d.Sectors() != len(m.sectors) || d.Size() != m.size || d.Done() != m.done || d.Down() != m.down || !slices.Equal(d.Cached(), m.cachedNumbers()) {
		t.Fatalf("%s: %d sectors of %d, %d done, down %t, %v cached; not %d of %d, %d, %t, %v", what, d.Sectors(), d.Size(), d.Done(), d.Down(), d.Cached(), len(m.sectors), m.size, m.done, m.down, m.cachedNumbers())
	}
	for i := -1; i <= len(m.sectors); i++ {
		b, e := d.Read(i)
		want, wantE := m.read(i)
		if e != wantE || !bytes.Equal(b, want) {
			t.Fatalf("%s: Read of sector %d: %v, error %d, not %v, %d", what, i, b, e, want, wantE)
		}
	}
}

// snap tells the model of a disk that isn't armed as it is now, worked out by a copy.
func snap(d *disk.Disk) *model {
	m := &model{size: d.Size(), down: d.Down(), done: d.Done()}
	kept, lost := d.Copy(), d.Copy()
	kept.Crash()
	lost.Crash(d.Cached()...)
	for i := range d.Sectors() {
		b, _ := lost.Read(i)
		m.sectors = append(m.sectors, b)
	}
	for _, i := range d.Cached() {
		b, _ := kept.Read(i)
		m.cached = append(m.cached, entry{i, b})
	}
	return m
}

// want holds a disk to being as it was.
func (m *model) want(t *testing.T, what string, d *disk.Disk) {
	t.Helper()
	m.hold(t, what+" changed something", d)
}

// pair is a disk and its model.
type pair struct {
	d *disk.Disk
	m *model
}

// drawn is what calls are drawn from: the rule tells a number below n.
type drawn func(n int) int

// sector draws a number of a sector, now and then one that there is not.
func (next drawn) sector(n int) int {
	if next(8) > 0 {
		return next(n)
	}
	return []int{-1, n, math.MinInt, math.MaxInt}[next(4)]
}

// content draws what should stand in a sector, now and then too much or too little.
func (next drawn) content(size int) []byte {
	if next(10) == 0 {
		size = []int{0, size - 1, size + 1}[next(3)]
	}
	return bytes.Repeat([]byte{byte(next(5))}, size)
}

// lost draws which sectors a crash loses, some of them twice, some that there are not.
func (next drawn) lost(n int) []int {
	var l []int
	for range next(n + 3) {
		l = append(l, next.sector(n))
	}
	return l
}

// arming draws with what a disk is armed.
func (next drawn) arming() int {
	return []int{0, 1, 2, 3, 5, 9, -1, math.MinInt, math.MaxInt}[next(9)]
}

// call makes one call at a disk and its model, and holds the answers against one another.
func (p pair) call(t *testing.T, next drawn) {
	t.Helper()
	n := len(p.m.sectors)
	var e, want api.Errno
	switch next(10) {
	case 0, 1, 2, 3:
		i, b := next.sector(n), next.content(p.m.size)
		e, want = p.d.Write(i, b), p.m.write(i, b)
	case 4, 5:
		e, want = p.d.Flush(), p.m.flush()
	case 6:
		i, b := next.sector(n), next.content(p.m.size)
		e, want = p.d.Tamper(i, b), p.m.tamper(i, b)
	case 7, 8:
		lost := next.lost(n)
		if p.m.down || next(4) == 0 {
			p.d.Crash(lost...)
			p.m.crash(lost)
		}
	case 9:
		k := next.arming()
		p.d.Arm(k)
		p.m.arm(k)
	}
	if e != want {
		t.Fatalf("a drawn call: error %d, not %d", e, want)
	}
}

// holdDiffer holds two disks' Differ to their models'.
func holdDiffer(t *testing.T, p, o pair) {
	t.Helper()
	l, same := p.d.Differ(o.d)
	want, wantSame := p.m.differ(o.m)
	if same != wantSame || !slices.Equal(l, want) {
		t.Fatalf("Differ: %v, %t, not %v, %t", l, same, want, wantSame)
	}
}

// run makes drawn calls at some disks of one another's copies, and holds all of them to their models.
func run(t *testing.T, next drawn, n, size, calls int) {
	t.Helper()
	l := []pair{{newDisk(t, n, size), newModel(n, size)}}
	for range calls {
		p := l[next(len(l))]
		p.call(t, next)
		if next(12) == 0 {
			l = append(l, pair{p.d.Copy(), p.m.copied()})
		}
		if len(l) > 4 {
			l = l[1:]
		}
		for _, o := range l {
			o.m.hold(t, "drawn", o.d)
			holdDiffer(t, p, o)
		}
	}
}

// P11.1 to P11.5, and 'Power': a disk and its copies against the plain model, over many calls.
func TestModel(t *testing.T) {
	r := rand.New(rand.NewPCG(11, 1))
	for turn := range 300 {
		run(t, r.IntN, 1+turn%7, 16+turn%3, 60)
	}
}

// P11.1 to P11.5: the same with more sectors than a few.
func TestModelOfMany(t *testing.T) {
	r := rand.New(rand.NewPCG(11, 2))
	for range 4 {
		run(t, r.IntN, 40, 20, 200)
	}
}
