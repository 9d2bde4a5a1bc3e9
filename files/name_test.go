package files_test

import (
	"regexp"
	"strings"
	"testing"

	"syngraph/files"
)

// wantName holds Name.
func wantName(t *testing.T, s string, want bool) {
	t.Helper()
	if files.Name(s) != want {
		t.Errorf("Name of %q: %t", s, !want)
	}
}

// P13.1: names with each kind of part.
func TestName(t *testing.T) {
	for _, s := range []string{
		"a", "z", "0", "9", "_", "-", "az09._-", "-a", "a-", "_/_", "-/-", "a/b", "a/b/c/d", "usr/bin/x-1.2_3", "0/1/2",
		"...", "....", "a.", ".a", "..a", "a..", "a..b", ".-", "._", "..._", "a/...", ".../a", "a/.b", "a/..b/c", ".a/.b",
	} {
		wantName(t, s, true)
	}
}

// P13.1: what is none: empty, with parts that are empty or mean a directory, or with other bytes.
func TestNoName(t *testing.T) {
	for _, s := range []string{
		"", "/", "//", "/a", "a/", "a//b", "//a", "a//", "/a/", "a/b/",
		".", "..", "./a", "../a", "a/.", "a/..", "a/./b", "a/../b", "./.", "../..", "/.", "/..", "./", "../",
		"A", "aB", "Z", "a b", " a", "a ", "a\\b", "a:b", "a\x00", "\x00", "a\n", "é", "a/é", "\xff", "a\x80", "ａ", "a*", "a,b", "a^b", "a`b", "a{b", "a@b", "a[b",
	} {
		wantName(t, s, false)
	}
}

// P13.1: each single byte, by itself and in each place of a name.
func TestNameOfEachByte(t *testing.T) {
	const of = "abcdefghijklmnopqrstuvwxyz0123456789._-"
	for c := range 256 {
		b := string([]byte{byte(c)})
		in := strings.Contains(of, b)
		wantName(t, b, in && b != ".")
		wantName(t, b+b, in && b != ".")
		wantName(t, "a"+b, in)
		wantName(t, b+"a", in)
		wantName(t, "x/y"+b+"/z", in)
		wantName(t, "x"+b+"z", in || b == "/")
	}
}

// P13.1: from 1 to 64 bytes, of one part and of many.
func TestNameByLength(t *testing.T) {
	for n := range 130 {
		wantName(t, strings.Repeat("a", n), n >= 1 && n <= 64)
		wantName(t, strings.Repeat("a/", n)+"b", 2*n+1 <= 64)
		wantName(t, strings.Repeat("a/", n), false)
		wantName(t, strings.Repeat(".", n), n >= 3 && n <= 64)
	}
	wantName(t, strings.Repeat("a", 62)+"/b", true)
	wantName(t, strings.Repeat("a", 63)+"/b", false)
	wantName(t, strings.Repeat("a", 1<<20), false)
	wantName(t, strings.Repeat("/", 1<<20), false)
}

// P13.1: any text is a name or not, as this expression says, which leans on the chapter alone.
func FuzzName(f *testing.F) {
	right := regexp.MustCompile(`^([a-z0-9._-]+/)*[a-z0-9._-]+$`)
	dots := regexp.MustCompile(`(^|/)\.\.?(/|$)`)
	for _, s := range []string{"", "a", "a/b", "a/../b", "...", "a//b", strings.Repeat("a", 65), "\n", "a\n", "é"} {
		f.Add(s)
	}
	f.Fuzz(func(t *testing.T, s string) {
		wantName(t, s, len(s) <= 64 && right.MatchString(s) && !dots.MatchString(s))
	})
}
