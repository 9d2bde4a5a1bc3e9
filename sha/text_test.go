package sha_test

import (
	"encoding/hex"
	"strings"
	"testing"

	"syngraph/api"
	"syngraph/sha"
)

// P1.2: Show has two digits for each byte, the higher half first; Parse leads back.
func TestShowAndParse(t *testing.T) {
	for b := range 256 {
		for _, place := range []int{0, 1, 30, 31} {
			h := sha.Hash(pattern(32))
			h[place] = byte(b)
			text := h.Show()
			if text != hex.EncodeToString(h[:]) {
				t.Errorf("Show of %v: %s", h[:], text)
			}
			if back, e := sha.Parse(text); back != h || e != api.OK {
				t.Errorf("Parse(%s): %v, %d", text, back, e)
			}
		}
	}
	if got := (sha.Hash{}).Show(); got != strings.Repeat("0", 64) {
		t.Errorf("Show of the zero hash: %s", got)
	}
	if got := (sha.Hash{0x1f, 31: 0xe2}).Show(); got != "1f"+strings.Repeat("0", 60)+"e2" {
		t.Errorf("Show: %s", got)
	}
	if h, e := sha.Parse(strings.Repeat("0", 64)); h != (sha.Hash{}) || e != api.OK {
		t.Errorf("Parse of the zero hash: %v, %d", h, e)
	}
}

// P1.2: each sign at each place: it is a digit, or there is no hash.
func TestParseEverySign(t *testing.T) {
	good := strings.Repeat("7c", 32)
	for place := range 64 {
		for c := range 256 {
			text := good[:place] + string([]byte{byte(c)}) + good[place+1:]
			h, e := sha.Parse(text)
			if strings.IndexByte("0123456789abcdef", byte(c)) >= 0 {
				if e != api.OK || h.Show() != text {
					t.Fatalf("Parse(%q): %s, %d", text, h.Show(), e)
				}
			} else if e != api.ErrForm || h != (sha.Hash{}) {
				t.Fatalf("Parse(%q): %s, %d, not ErrForm and nothing", text, h.Show(), e)
			}
		}
	}
}

// P1.2: texts that are none, with the zero hash beside ErrForm.
func TestParseWrong(t *testing.T) {
	good := strings.Repeat("0a", 32)
	for _, text := range []string{
		"",
		"0",
		"0a",
		good[1:],
		good[2:],
		good + "0",
		good + "0a",
		good + good,
		" " + good[1:],
		good[1:] + "\n",
		"0x" + good[2:],
		strings.ToUpper(good),
		good[:63] + "A",
		strings.Repeat("g", 64),
		strings.Repeat("\x00", 64),
		strings.Repeat("\xff", 64),
		strings.Repeat("é", 32),
		strings.Repeat("é", 64),
	} {
		if h, e := sha.Parse(text); e != api.ErrForm || h != (sha.Hash{}) {
			t.Errorf("Parse(%q): %s, %d, not ErrForm and nothing", text, h.Show(), e)
		}
	}
}

// P1.2: Cmp in the order of bytes, the first that differs deciding, bytes above 127 behind those below.
func TestCmp(t *testing.T) {
	rising := []sha.Hash{
		{},
		{31: 1},
		{31: 127},
		{31: 128},
		{31: 255},
		{30: 1},
		{1: 1},
		{0: 1},
		{0: 1, 31: 1},
		{0: 1, 1: 1},
		{0: 2},
		{0: 127, 31: 255},
		{0: 128},
		{0: 255},
		{0: 255, 31: 255},
	}
	for i, a := range rising {
		for j, b := range rising {
			want := 0
			if i < j {
				want = -1
			} else if i > j {
				want = 1
			}
			if got := a.Cmp(b); got != want {
				t.Errorf("Cmp of %s with %s: %d, not %d", a.Show(), b.Show(), got, want)
			}
		}
	}
}

// P1.3: Cmp and Show leave their hashes as they are.
func TestHashesNotChanged(t *testing.T) {
	a, b := sha.Hash(pattern(32)), sha.Hash(pattern(33)[1:])
	a.Cmp(b)
	a.Show()
	if a != sha.Hash(pattern(32)) || b != sha.Hash(pattern(33)[1:]) {
		t.Errorf("a hash was changed")
	}
}

func FuzzParse(f *testing.F) {
	f.Add("")
	f.Add(strings.Repeat("0a", 32))
	f.Add(strings.Repeat("é", 32))
	f.Fuzz(func(t *testing.T, text string) {
		h, e := sha.Parse(text)
		switch {
		case e == api.OK && h.Show() != text:
			t.Errorf("Parse(%q): %s", text, h.Show())
		case e != api.OK && (e != api.ErrForm || h != sha.Hash{}):
			t.Errorf("Parse(%q): %s, %d", text, h.Show(), e)
		}
	})
}
