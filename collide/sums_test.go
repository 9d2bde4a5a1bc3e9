package collide_test

import (
	"bytes"
	"crypto/sha256"
	"encoding/json"
	"math/rand/v2"
	"os"
	"os/exec"
	"path/filepath"
	"slices"
	"strings"
	"testing"

	"syngraph/api"
	"syngraph/collide"
	"syngraph/proof"
	"syngraph/sha"
	"syngraph/tag"
)

// The tests TestAnySum.. hold whatever the sum is. TestCutSum runs them with layer 1's sum cut to three bits: there collisions are found everywhere, so that it is seen what is told of them.

// tries is how many lists of each size are looked at.
const tries = 800

// isCut tells whether layer 1's sum is cut, so that there must be collisions.
func isCut() bool {
	return sha.Sum([]byte("abc")) != sha256.Sum256([]byte("abc"))
}

// someLeaves tells n leaves out of few.
func someLeaves(r *rand.Rand, n int) [][]byte {
	l := make([][]byte, n)
	for i := range l {
		l[i] = leafAt(r.IntN(12))
	}
	return l
}

// almost tells the same leaves, but for one or two of them.
func almost(r *rand.Rand, l [][]byte) [][]byte {
	other := cloned(l)
	for range min(len(l), 1+r.IntN(2)) {
		other[r.IntN(len(l))] = leafAt(r.IntN(12))
	}
	return other
}

// someHashes tells n hashes that are sums.
func someHashes(r *rand.Rand, n int) []sha.Hash {
	l := make([]sha.Hash, n)
	for i := range l {
		l[i] = sha.Sum([]byte{byte(r.IntN(64))})
	}
	return l
}

// someChanged tells the same hashes, or the same but for one or two of them, or others.
func someChanged(r *rand.Rand, l []sha.Hash) []sha.Hash {
	other, others := slices.Clone(l), someHashes(r, len(l))
	switch turns := r.IntN(4); turns {
	case 3:
		return others
	default:
		for range min(len(l), turns) {
			at := r.IntN(len(l))
			other[at] = others[at]
		}
		return other
	}
}

// count is how many collisions there were, of leaves and of nodes.
type count struct{ leaves, nodes int }

// of holds a collision that was told to being a right one, and counts it.
func (n *count) of(t *testing.T, what string, c collide.Collision) {
	t.Helper()
	if bytes.Equal(c.A, c.B) || sha.Sum(c.A) != sha.Sum(c.B) || !c.Right() {
		t.Fatalf("%s: no right collision: %v, %v", what, c.A, c.B)
	}
	if c.A[0] == 0 {
		n.leaves++
	} else {
		n.nodes++
	}
}

// wantSome holds a count to there being both where the sum is cut, and none where it isn't.
func (n *count) wantSome(t *testing.T, what string) {
	t.Helper()
	if some := n.leaves > 0 && n.nodes > 0; some != isCut() {
		t.Errorf("%s: %d collisions of leaves, %d of nodes", what, n.leaves, n.nodes)
	}
}

// holdNew holds an answer to being memory of its own, spare room too: writing on it changes nothing of another one, and nothing that was handed in.
func holdNew(t *testing.T, what string, g *given, first, second collide.Collision) {
	t.Helper()
	b, then := first.B, whole(first.B)
	spoil(first.A)
	if !bytes.Equal(whole(b), then) {
		t.Fatalf("%s: both inputs share memory", what)
	}
	spoil(first.B)
	if bytes.Equal(second.A, second.B) || sha.Sum(second.A) != sha.Sum(second.B) {
		t.Fatalf("%s: two answers share memory", what)
	}
	g.wantSame(t, what)
}

// spoil fills bytes with other ones, their spare room too.
func spoil(b []byte) {
	b = b[:cap(b)]
	for i := range b {
		b[i] ^= 0xee
	}
}

// P10.1: Right is of any two inputs, whatever the sum is, that differ and have one.
func TestAnySumRight(t *testing.T) {
	right := 0
	for i := range 300 {
		for k := range 300 {
			c := collide.Collision{A: leafAt(i), B: leafAt(k)}
			want := i != k && sha.Sum(c.A) == sha.Sum(c.B)
			if c.Right() != want {
				t.Fatalf("Right of %v and %v: %t", c.A, c.B, !want)
			}
			if want {
				right++
			}
		}
	}
	if right > 0 != isCut() {
		t.Errorf("%d right collisions", right)
	}
}

// P10.1 and P10.4: whatever the sum is, a right collision of two lists of one length with one root that differ, and nothing of others.
func TestAnySumLists(t *testing.T) {
	r, n := rand.New(rand.NewPCG(10, 1)), count{}
	for size := range 14 {
		for range tries {
			var g given
			a := g.leavesIn(someLeaves(r, size))
			b := g.leavesIn(almost(r, a))
			if r.IntN(3) == 0 {
				b = g.leavesIn(someLeaves(r, r.IntN(14)))
			}
			c, found := collide.Lists(a, b)
			if found != (len(a) == len(b) && rootOf(a) == rootOf(b) && !same(a, b)) {
				t.Fatalf("Lists of %v and %v: found is %t", a, b, found)
			}
			g.wantSame(t, "Lists")
			if !found {
				wantNothing(t, "Lists", c, found)
				continue
			}
			n.of(t, "Lists", c)
			again, _ := collide.Lists(a, b)
			n.of(t, "Lists", again)
			holdNew(t, "Lists", &g, c, again)
		}
	}
	n.wantSome(t, "Lists")
}

// someClaim tells a claim of a list that may be right, and often is where the sum is cut.
func someClaim(t *testing.T, r *rand.Rand, g *given, l [][]byte) collide.Claim {
	i := r.IntN(len(l))
	leaf := g.leavesIn([][]byte{l[i], leafAt(r.IntN(12))})[r.IntN(2)]
	return collide.Claim{Index: i, Size: len(l), Leaf: leaf, Path: g.hashesIn(someChanged(r, pathOf(t, l, i)))}
}

// P10.2 and P10.4: whatever the sum is, a right collision of a right path for a leaf that doesn't stand there, and nothing of others; a right path with other hashes than the list's, for the leaf that stands there, is no collision.
func TestAnySumIn(t *testing.T) {
	r, n, others := rand.New(rand.NewPCG(10, 2)), count{}, 0
	for size := 1; size < 14; size++ {
		for range tries {
			var g given
			l := g.leavesIn(someLeaves(r, size))
			x := someClaim(t, r, &g, l)
			c, found, e := collide.In(l, x)
			if want := proof.In(tag.Leaf(x.Leaf), x.Index, size, x.Path, rootOf(l)); e != want {
				t.Fatalf("In of %d in %v: error %d, not %d", x.Index, l, e, want)
			}
			if stands := bytes.Equal(x.Leaf, l[x.Index]); found != (e == api.OK && !stands) {
				t.Fatalf("In of %v in %v: error %d, found is %t", x, l, e, found)
			}
			g.wantSame(t, "In")
			if !found {
				wantNothing(t, "In", c, found)
				if e == api.OK && !slices.Equal(x.Path, pathOf(t, l, x.Index)) {
					others++
				}
				continue
			}
			n.of(t, "In", c)
			again, _, _ := collide.In(l, x)
			n.of(t, "In", again)
			holdNew(t, "In", &g, c, again)
		}
	}
	n.wantSome(t, "In")
	if others > 0 != isCut() {
		t.Errorf("In: %d right paths with other hashes", others)
	}
}

// P10.3 and P10.4: whatever the sum is, a right collision of a right proof from what isn't the beginning, and nothing of others; a right proof with other hashes than the list's, from the beginning, is no collision.
func TestAnySumOn(t *testing.T) {
	r, n, others := rand.New(rand.NewPCG(10, 3)), count{}, 0
	for size := range 14 {
		for range 4 * tries {
			var g given
			m := r.IntN(size + 1)
			l := someLeaves(r, size)
			old := [][][]byte{l[:m], almost(r, l[:m]), someLeaves(r, m)}[r.IntN(3)]
			x := collide.Growth{Old: g.leavesIn(old), New: g.leavesIn(l), Proof: g.hashesIn(someChanged(r, proofOf(t, l, m)))}
			c, found, e := collide.On(x)
			if want := proof.On(m, size, rootOf(old), rootOf(l), x.Proof); e != want {
				t.Fatalf("On from %v to %v: error %d, not %d", old, l, e, want)
			}
			if begins := same(old, l[:m]); found != (e == api.OK && !begins) {
				t.Fatalf("On of %v: error %d, found is %t", x, e, found)
			}
			g.wantSame(t, "On")
			if !found {
				wantNothing(t, "On", c, found)
				if e == api.OK && !slices.Equal(x.Proof, proofOf(t, l, m)) {
					others++
				}
				continue
			}
			n.of(t, "On", c)
			again, _, _ := collide.On(x)
			n.of(t, "On", again)
			holdNew(t, "On", &g, c, again)
		}
	}
	n.wantSome(t, "On")
	if others > 0 != isCut() {
		t.Errorf("On: %d right proofs with other hashes", others)
	}
}

// P10.1 to P10.4: all of TestAnySum.. holds with a sum of three bits, of which collisions are known.
func TestCutSum(t *testing.T) {
	if isCut() {
		t.Skip("the sum is cut already")
	}
	tool, err := exec.LookPath("go")
	if err != nil {
		t.Skip("no go to build with")
	}
	run := exec.Command(tool, "test", "-vet=off", "-count=1", "-overlay", cutOverlay(t), "-run", "^TestAnySum", ".")
	if told, err := run.CombinedOutput(); err != nil {
		t.Errorf("with a cut sum: %v\n%s", err, told)
	}
}

// cutOverlay writes what the go tool reads layer 1's sum from instead of its own file, and tells where.
func cutOverlay(t *testing.T) string {
	t.Helper()
	const (
		head = "func Sum(b []byte) Hash {\n"
		cut  = head + "\treturn Hash{wholeSum(b)[0] & 7}\n}\n\nfunc wholeSum(b []byte) Hash {\n"
	)
	files, err := filepath.Glob("../sha/*.go")
	if err != nil {
		t.Fatal(err)
	}
	for _, file := range files {
		text, err := os.ReadFile(file)
		if err != nil {
			t.Fatal(err)
		}
		if !strings.Contains(string(text), head) || strings.HasSuffix(file, "_test.go") {
			continue
		}
		at, err := filepath.Abs(file)
		if err != nil {
			t.Fatal(err)
		}
		instead := filepath.Join(t.TempDir(), "sha.go")
		write(t, instead, []byte(strings.Replace(string(text), head, cut, 1)))
		overlay, err := json.Marshal(map[string]map[string]string{"Replace": {at: instead}})
		if err != nil {
			t.Fatal(err)
		}
		told := filepath.Join(t.TempDir(), "overlay.json")
		write(t, told, overlay)
		return told
	}
	t.Fatal("layer 1 has no Sum to cut")
	return ""
}

// write writes a file.
func write(t *testing.T, name string, b []byte) {
	t.Helper()
	if err := os.WriteFile(name, b, 0o600); err != nil {
		t.Fatal(err)
	}
}
